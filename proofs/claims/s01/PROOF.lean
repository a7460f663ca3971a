import PyProof.Rows.All
import Wide.All
import OpenK.AllK
import Wide.FinOn
import PyProof.EqAt
import PyProof.EqKinds
import PyProof.TupleCall
import KE.BitLaws
import Open.SpecLaws
import KE.OsHead
import KE.OsGo
import PySem.Challenge.RW_twinsensors_s01_answers
set_option Elab.async false
set_option linter.all false
set_option maxRecDepth 100000
namespace L2
open PySem PySem.Spec PyProof.Rows
abbrev Key := Sum Int Str
def keyIs : Key → Value → Bool
  | .inl k, v => Value.isInt k v
  | .inr x, v => Value.isStrOf x v
def keyH (w : World) : Key → Int
  | .inl k => hashInt k
  | .inr x => hashStr w x
theorem keyIs_shape : ∀ {k : Key} {v : Value}, keyIs k v = true → (∃ i t, k = Sum.inl i ∧ v = Value.int i t) ∨ (∃ x t, k = Sum.inr x ∧ v = Value.str x t)
  | .inl i, v, h => by
    obtain ⟨t, e⟩ := Value.isInt_shape (k := i) (v := v) h
    exact .inl ⟨i, t, rfl, e⟩
  | .inr x, v, h => by
    obtain ⟨t, e⟩ := Value.isStrOf_shape (x := x) (v := v) h
    exact .inr ⟨x, t, rfl, e⟩
theorem key_ll (a b : Int) : decide ((Sum.inl a : Key) = Sum.inl b) = (a == b) := by
  by_cases e : a = b
  · subst e; simp
  · have h : ¬ (Sum.inl a : Key) = Sum.inl b := fun q => e (Sum.inl.inj q)
    rw [decide_eq_false h]
    exact (beq_eq_false_iff_ne.mpr e).symm
theorem key_rr (a b : Str) : decide ((Sum.inr a : Key) = Sum.inr b) = decide (a = b) := by
  by_cases e : a = b
  · subst e; simp
  · have h : ¬ (Sum.inr a : Key) = Sum.inr b := fun q => e (Sum.inr.inj q)
    rw [decide_eq_false h, decide_eq_false e]
theorem key_lr (a : Int) (b : Str) : decide ((Sum.inl a : Key) = Sum.inr b) = false := decide_eq_false (fun q => nomatch q)
theorem key_rl (a : Str) (b : Int) : decide ((Sum.inr a : Key) = Sum.inl b) = false := decide_eq_false (fun q => nomatch q)
def mixKind (prog : Program) (w : World) : PySem.KeyKind prog w Key where
  is := keyIs
  hash := keyH w
  inj := fun v a b ha hb => by
    rcases keyIs_shape ha with ⟨i, t, rfl, rfl⟩ | ⟨x, t, rfl, rfl⟩
    · rcases keyIs_shape hb with ⟨j, u, rfl, e⟩ | ⟨y, u, rfl, e⟩
      · injection e with e1 _; rw [e1]
      · exact nomatch e
    · rcases keyIs_shape hb with ⟨j, u, rfl, e⟩ | ⟨y, u, rfl, e⟩
      · exact nomatch e
      · injection e with e1 _; rw [e1]
  byValue := fun k v h => by
    rcases keyIs_shape h with ⟨i, t, rfl, rfl⟩ | ⟨x, t, rfl, rfl⟩ <;> rfl
  pyHash := fun hv h => by
    rcases keyIs_shape hv with ⟨i, t, rfl, rfl⟩ | ⟨x, t, rfl, rfl⟩
    · exact wpAny_pyHash_int h
    · exact wpAny_pyHash_str h
  eqBool := fun hu hv h => by
    rcases keyIs_shape hu with ⟨i, t, rfl, rfl⟩ | ⟨x, t, rfl, rfl⟩
    · rcases keyIs_shape hv with ⟨j, u, rfl, rfl⟩ | ⟨y, u, rfl, rfl⟩
      · rw [key_ll] at h; exact wpAny_eqBool_int h
      · rw [key_lr] at h; exact SeqAt.EqAt.int_str i t y u _ _ _ _ h
    · rcases keyIs_shape hv with ⟨j, u, rfl, rfl⟩ | ⟨y, u, rfl, rfl⟩
      · rw [key_rl] at h; exact SeqAt.EqAt.str_int x t j u _ _ _ _ h
      · rw [key_rr] at h; exact wpAny_eqBool_str h
  «strs» := fun k x t v h => by
    rcases keyIs_shape h with ⟨i, u, rfl, e⟩ | ⟨y, u, rfl, e⟩
    · exact nomatch e
    · injection e with e1 _
      subst e1
      cases v <;> rfl
end L2
namespace L2
open PySem PySem.Spec PyProof.Rows
inductive V where
  | non | bl (b : Bool) | int (i : Int) | str (x : Str) | byt (b : Array UInt8) | flt (b : UInt64) | ref (a : Addr) | ty (n : String)
  deriving DecidableEq
def RelV : V → Value → Prop
  | .non, u => u = Value.none
  | .bl b, u => u = Value.bool b
  | .int i, u => ∃ t, u = Value.int i t
  | .str x, u => ∃ t, u = Value.str x t
  | .byt b, u => ∃ t, u = Value.bytes b t
  | .flt b, u => ∃ t, u = Value.float b t
  | .ref a, u => u = Value.ref a
  | .ty n, u => u = Value.type n
abbrev Vals : List V → List Value → Prop := Paired RelV
theorem Vals.length {xs : List V} {us : List Value} (r : Vals xs us) : xs.length = us.length := Paired.length r
theorem Vals.get : ∀ {xs : List V} {us : List Value} {i : Nat} {x : V}, Vals xs us → xs[i]? = some x → ∃ u, us[i]? = some u ∧ RelV x u
  | _, _, _, _, .nil, e => by simp at e
  | _, _, 0, _, .cons r _, e => by simp at e; subst e; exact ⟨_, rfl, r⟩
  | _, _, i + 1, x, .cons _ t, e => by
    obtain ⟨u, h1, h2⟩ := Vals.get (i := i) (x := x) t (by simpa using e)
    exact ⟨u, by simpa using h1, h2⟩
theorem Vals.set {x : V} {u : Value} (r : RelV x u) : ∀ {xs : List V} {us : List Value} (i : Nat), Vals xs us → Vals (xs.set i x) (us.set i u)
  | _, _, _, .nil => .nil
  | _, _, 0, .cons _ t => .cons r t
  | _, _, i + 1, .cons q t => .cons q (Vals.set r i t)
theorem Vals.append : ∀ {xs ys : List V} {us ws : List Value}, Vals xs us → Vals ys ws → Vals (xs ++ ys) (us ++ ws)
  | _, _, _, _, .nil, s => s
  | _, _, _, _, .cons r t, s => .cons r (Vals.append t s)
theorem Vals.take : ∀ {xs : List V} {us : List Value} (n : Nat), Vals xs us → Vals (xs.take n) (us.take n)
  | _, _, 0, _ => .nil
  | _, _, _ + 1, .nil => .nil
  | _, _, n + 1, .cons r t => .cons r (Vals.take n t)
theorem Vals.drop : ∀ {xs : List V} {us : List Value} (n : Nat), Vals xs us → Vals (xs.drop n) (us.drop n)
  | _, _, 0, r => r
  | _, _, _ + 1, .nil => .nil
  | _, _, n + 1, .cons _ t => Vals.drop n t
theorem Vals.none_of : ∀ {xs : List V} {us : List Value} {i : Nat}, Vals xs us → xs[i]? = none → us[i]? = none := fun {xs us i} r e => by
  have h1 := r.length
  have h2 : xs.length ≤ i := List.getElem?_eq_none_iff.mp e
  exact List.getElem?_eq_none_iff.mpr (by omega)
def RelO : Option V → Option Value → Prop
  | some v, some u => RelV v u
  | none, none => True
  | _, _ => False
def KV {κ : Type} : List (κ × V) → List (κ × Value) → Prop := Paired fun (p : κ × V) (q : κ × Value) => p.1 = q.1 ∧ RelV p.2 q.2
def kV : Key → V
  | .inl i => .int i
  | .inr x => .str x
inductive HO where
  | lst (xs : List V)
  | tup (xs : List V)
  | dK (kvs : List (Key × V)) | dT (kvs : List (List Key × V))
  | set (S : Int → Bool) (n : Nat)
  | ins (C dx : Addr) (fs : List (Str × V))
  | own (x : Addr)
  | xd (fs : List (Str × V))
  | met (f x : Addr)
  | rng (lo hi : Int)
  | frz (o : Obj) (u : HO)
  | tbl (ps : Array Value)
  | ext (φ : Heap → Prop)
abbrev Hp := Addr → Option HO
def upd (H : Hp) (a : Addr) (o : HO) : Hp := fun b => if b = a then some o else H b
theorem upd_same {H : Hp} {a : Addr} {o : HO} : upd H a o a = some o := by unfold upd; rw [if_pos rfl]
theorem upd_ne {H : Hp} {a b : Addr} {o : HO} (h : b ≠ a) : upd H a o b = H b := by unfold upd; rw [if_neg h]
theorem ne_of {H : Hp} {a b : Addr} {o u : HO} (h : H a = some o) (h' : H b = some u) (d : o ≠ u) : a ≠ b := by
  intro e; subst e; rw [h] at h'; exact d (Option.some.inj h')
theorem ne_of_none {H : Hp} {a b : Addr} {o : HO} (h : H a = some o) (h' : H b = none) : a ≠ b := by
  intro e; subst e; rw [h] at h'; cases h'
section
variable (P : Program) (w : World)
def ObjOk (H : Hp) (h : Heap) (a : Addr) : HO → Prop
  | .lst xs => xs.length ≤ sizeLine ∧ ∃ (its : List Value) (n : Nat), Vals xs its ∧ h.get? a = some { cls := .type "list", data := .seq its.toArray n }
  | .tup xs => xs.length ≤ sizeLine ∧ ∃ its : List Value, Vals xs its ∧ IsTup h a its.toArray
  | .dK kvs => kvs.length ≤ sizeLine ∧ (a == sysModules) = false ∧ ∃ vs, KV kvs vs ∧ h.DictOf (mixKind P w) a vs
  | .dT kvs => kvs.length ≤ sizeLine ∧ (a == sysModules) = false ∧ ∃ xs : List (List Key × Addr × Value),
      Paired (fun (p : List Key × V) (q : List Key × Addr × Value) => p.1 = q.1 ∧ H q.2.1 = some (.tup (p.1.map kV)) ∧ RelV p.2 q.2.2) kvs xs ∧
      ∃ o es ep, h.get? a = some o ∧ o.ExactDict ∧ o.data = .dict es ep ∧ es.toList = xs.map (entryOfKey (tupleKind (mixKind P w))) ∧ (xs.map (·.1)).Nodup
  | .set S n => h.SetOf (intKind P w) a S n
  | .ins C dx fs => H dx = some (.own a) ∧ fs.length ≤ 1000 ∧ dx ≠ a ∧ h.get? a = some (PySem.W.instObj C dx) ∧
      ∃ mA, h.Ns1 dx mA ∧ (∀ f, RelO (fs.lookup f) (mA f)) ∧ PySem.Within mA (fs.map (·.1))
  | .own _ => ∃ o, h.get? a = some o
  | .xd fs => ∃ mA, h.Ns1 a mA ∧ ∀ f, RelO (fs.lookup f) (mA f)
  | .rng lo hi => ∃ t u v, h.get? a = some { cls := .type "range", data := .fields #[.int lo t, .int hi u, .int 1 v] }
  | .frz o u => h.get? a = some o ∧ ObjOk H h a u
  | .tbl ps => h.get? a = some { cls := .none, data := .fields ps }
  | .met f x => h.get? a = some (PySem.W.methodObj (.ref f) (.ref x))
  | .ext φ => φ h ∧ (∃ o, h.get? a = some o) ∧ ∀ h1 h2 : Heap, φ h1 → (∀ o, h1.get? a = some o → h2.get? a = some o) → φ h2
def HOk (H : Hp) (h : Heap) : Prop := ∀ a o, H a = some o → ObjOk P w H h a o
end
section
variable {P : Program} {w : World} {H H' : Hp} {h h' : Heap} {a : Addr} {o : HO}
theorem ObjOk.lt (x : ObjOk P w H h a o) : a < h.objs.size := by
  cases o with
  | lst xs => obtain ⟨_, _, _, _, e⟩ := x; exact Heap.lt_size e
  | tup xs => obtain ⟨_, _, _, p⟩ := x; exact p.lt
  | dK kvs => obtain ⟨_, _, _, _, o, _, _, e, _⟩ := x; exact Heap.lt_size e
  | dT kvs => obtain ⟨_, _, _, _, o, _, _, e, _⟩ := x; exact Heap.lt_size e
  | set S n => obtain ⟨o, _, _, _, e, _⟩ := x; exact Heap.lt_size e
  | ins C dx fs => obtain ⟨_, _, _, e, _⟩ := x; exact Heap.lt_size e
  | own y => obtain ⟨_, e⟩ := x; exact Heap.lt_size e
  | xd fs => obtain ⟨_, ⟨_, _, _, e, _⟩, _⟩ := x; exact Heap.lt_size e
  | rng lo hi => obtain ⟨_, _, _, e⟩ := x; exact Heap.lt_size e
  | frz ob u => obtain ⟨e, _⟩ := x; exact Heap.lt_size e
  | tbl ps => exact Heap.lt_size (show h.get? a = some _ from x)
  | met f y => exact Heap.lt_size (show h.get? a = some _ from x)
  | ext φ => obtain ⟨_, ⟨_, e⟩, _⟩ := x; exact Heap.lt_size e
theorem Paired.mapP {α β : Type} {F G : α → β → Prop} : ∀ {l₁ : List α} {l₂ : List β}, Paired F l₁ l₂ → (∀ a b, F a b → G a b) → Paired G l₁ l₂
  | _, _, .nil, _ => .nil
  | _, _, .cons r t, f => .cons (f _ _ r) (Paired.mapP t f)
theorem ObjOk.stay (x : ObjOk P w H h a o) (k : ∀ b u, (b = a ∨ H b = some (.own a)) → h.get? b = some u → h'.get? b = some u)
    (ho : ∀ b, H b = some (.own a) → H' b = some (.own a)) (ht : ∀ b xs, H b = some (.tup xs) → H' b = some (.tup xs)) : ObjOk P w H' h' a o := by
  induction o with
  | lst xs => obtain ⟨z, its, n, r, e⟩ := x; exact ⟨z, its, n, r, k _ _ (.inl rfl) e⟩
  | tup xs => obtain ⟨z, its, r, ob, e, c⟩ := x; exact ⟨z, its, r, ob, k _ _ (.inl rfl) e, c⟩
  | dK kvs => obtain ⟨z, y, vs, r, ob, es, ep, e, c⟩ := x; exact ⟨z, y, vs, r, ob, es, ep, k _ _ (.inl rfl) e, c⟩
  | dT kvs =>
    obtain ⟨z, y, xs, r, ob, es, ep, e, c⟩ := x
    exact ⟨z, y, xs, Paired.mapP r fun p q z => ⟨z.1, ht _ _ z.2.1, z.2.2⟩, ob, es, ep, k _ _ (.inl rfl) e, c⟩
  | set S n => obtain ⟨ob, es, ep, t, e, c⟩ := x; exact ⟨ob, es, ep, t, k _ _ (.inl rfl) e, c⟩
  | ins C dx fs =>
    obtain ⟨d, z, ne, e, mA, ⟨od, es, ep, e2, c⟩, r⟩ := x
    exact ⟨ho _ d, z, ne, k _ _ (.inl rfl) e, mA, ⟨od, es, ep, k _ _ (.inr d) e2, c⟩, r⟩
  | own y => obtain ⟨ob, e⟩ := x; exact ⟨ob, k _ _ (.inl rfl) e⟩
  | xd fs => obtain ⟨mA, ⟨od, es, ep, e, c⟩, r⟩ := x; exact ⟨mA, ⟨od, es, ep, k _ _ (.inl rfl) e, c⟩, r⟩
  | rng lo hi => obtain ⟨t, u, v, e⟩ := x; exact ⟨t, u, v, k _ _ (.inl rfl) e⟩
  | frz ob u ih => obtain ⟨e, q⟩ := x; exact ⟨k _ _ (.inl rfl) e, ih q⟩
  | tbl ps =>
    have e : h.get? a = some { cls := .none, data := .fields ps } := x
    show h'.get? a = some { cls := .none, data := .fields ps }
    exact k a _ (.inl rfl) e
  | met f y =>
    have e : h.get? a = some (PySem.W.methodObj (.ref f) (.ref y)) := x
    show h'.get? a = some (PySem.W.methodObj (.ref f) (.ref y))
    exact k a _ (.inl rfl) e
  | ext φ => obtain ⟨p, ⟨o, e⟩, st⟩ := x; exact ⟨st _ _ p fun o q => k _ _ (.inl rfl) q, ⟨o, k _ _ (.inl rfl) e⟩, st⟩
theorem HOk.lt (x : HOk P w H h) (e : H a = some o) : a < h.objs.size := (x a o e).lt
theorem HOk.fresh (x : HOk P w H h) (e : h.objs.size ≤ a) : H a = none := by
  cases q : H a with
  | none => rfl
  | some u => exact absurd (Nat.lt_of_lt_of_le (x.lt q) e) (Nat.lt_irrefl _)
theorem HOk.kept (x : HOk P w H h) (k : ∀ b u, h.get? b = some u → h'.get? b = some u) : HOk P w H h' := fun a o e =>
  (x a o e).stay (fun b u _ q => k b u q) (fun _ q => q) fun _ _ q => q
theorem HOk.laid (x : HOk P w H h) (k : ∀ b u, h.get? b = some u → h'.get? b = some u) (hp : h.objs.size ≤ a) (new : ObjOk P w (upd H a o) h' a o) : HOk P w (upd H a o) h' := fun b u e => by
  have hn := x.fresh hp
  by_cases hb : b = a
  · subst hb; rw [upd_same] at e; cases e; exact new
  · rw [upd_ne hb] at e
    exact (x b u e).stay (fun c v _ q => k c v q) (fun c q => by rw [upd_ne (ne_of_none q hn)]; exact q) fun c xs q => by rw [upd_ne (ne_of_none q hn)]; exact q
end
def Rd (H : Hp) (a : Addr) (u : HO) : Prop := H a = some u ∨ ∃ o, H a = some (.frz o u)
theorem Rd.of {H : Hp} {a : Addr} {u : HO} (h : H a = some u) : Rd H a u := .inl h
theorem Rd.ok {P : Program} {w : World} {H : Hp} {h : Heap} {a : Addr} {u : HO} (r : Rd H a u) (x : HOk P w H h) : ObjOk P w H h a u := by
  rcases r with r | ⟨o, r⟩
  · exact x a u r
  · obtain ⟨_, q⟩ := x a _ r
    exact q
def Mut : Option HO → Prop
  | some (.lst _) => True
  | some (.dK _) => True
  | some (.dT _) => True
  | some (.set _ _) => True
  | some (.ins _ _ _) => True
  | some (.ext _) => True
  | _ => False
section
variable {P : Program} {w : World} {H : Hp} {h h' : Heap} {x e : Addr} {o' : HO}
theorem HOk.write (ok : HOk P w H h) (mu : Mut (H x)) (he : e = x ∨ H e = some (.own x)) (k : ∀ b u, b ≠ e → h.get? b = some u → h'.get? b = some u) (heo : ∃ u, h'.get? e = some u)
    (new : ObjOk P w (upd H x o') h' x o') : HOk P w (upd H x o') h' := fun b u q => by
  have nown : ∀ c y, H c = some (.own y) → c ≠ x := fun c y r z => by subst z; rw [r] at mu; exact mu
  have ntup : ∀ c xs, H c = some (.tup xs) → c ≠ x := fun c xs r z => by subst z; rw [r] at mu; exact mu
  by_cases hb : b = x
  · subst hb; rw [upd_same] at q; cases q; exact new
  · rw [upd_ne hb] at q
    by_cases hbe : b = e
    · have q' : H b = some (.own x) := by
        rcases he with z | z
        · exact absurd (hbe.trans z) hb
        · rw [hbe]; exact z
      rw [q] at q'; cases q'
      obtain ⟨v, hv⟩ := heo
      exact ⟨v, by rw [hbe]; exact hv⟩
    · refine (ok b u q).stay (fun c v hc r => k c v ?_ r) (fun c r => by rw [upd_ne (nown c b r)]; exact r) fun c xs r => by rw [upd_ne (ntup c xs r)]; exact r
      rcases hc with rfl | hc
      · exact hbe
      · rintro rfl
        rcases he with z | z
        · exact nown c b hc z
        · rw [hc] at z; cases z; exact hb rfl
end
structure Un (fs ex : List Addr) (H H' : Hp) (h h' : Heap) : Prop where
  keep : ∀ b o, h.get? b = some o → H b = none → b ∉ fs → b ∉ ex → h'.get? b = some o
  slot : ∀ b o, h.get? b = some o → H b = none → b ∈ fs → b ∉ ex → ∃ sl, h'.get? b = some { o with slots := sl }
  free : ∀ b o, h.get? b = some o → H b = none → b ∉ ex → H' b = none
  there : ∀ b o, h.get? b = some o → b ∉ ex → ∃ o', h'.get? b = some o'
  tups : ∀ b xs, H b = some (.tup xs) → H' b = some (.tup xs)
  frzs : ∀ b o u, H b = some (.frz o u) → H' b = some (.frz o u)
  tbls : ∀ b ps, H b = some (.tbl ps) → ∃ more, H' b = some (.tbl (ps ++ more))
section
variable {fs fs' ex ex' : List Addr} {H H1 H2 : Hp} {h h1 h2 h' : Heap} {a x e : Addr} {o : HO}
theorem Un.any (u : Un fs ex H H1 h h1) {b : Addr} {ob : Obj} (q : h.get? b = some ob) (n : H b = none) (hx : b ∉ ex) : ∃ sl, h1.get? b = some { ob with slots := sl } := by
  by_cases hb : b ∈ fs
  · exact u.slot b ob q n hb hx
  · exact ⟨ob.slots, u.keep b ob q n hb hx⟩
theorem Un.trans (a : Un fs ex H H1 h h1) (b : Un fs ex H1 H2 h1 h2) : Un fs ex H H2 h h2 where
  keep := fun c ob q n hc hx => b.keep c ob (a.keep c ob q n hc hx) (a.free c ob q n hx) hc hx
  slot := fun c ob q n hc hx => by
    obtain ⟨sl, e1⟩ := a.slot c ob q n hc hx
    obtain ⟨sl', e2⟩ := b.slot c _ e1 (a.free c ob q n hx) hc hx
    exact ⟨sl', e2⟩
  free := fun c ob q n hx => by
    obtain ⟨o', e1⟩ := a.there c ob q hx
    exact b.free c o' e1 (a.free c ob q n hx) hx
  there := fun c ob q hx => by
    obtain ⟨o', e1⟩ := a.there c ob q hx
    exact b.there c o' e1 hx
  tups := fun c xs q => b.tups c xs (a.tups c xs q)
  frzs := fun c ob xs q => b.frzs c ob xs (a.frzs c ob xs q)
  tbls := fun c ps q => by
    obtain ⟨m1, e1⟩ := a.tbls c ps q
    obtain ⟨m2, e2⟩ := b.tbls c _ e1
    exact ⟨m1 ++ m2, by rw [e2, Array.append_assoc]⟩
theorem Un.kept (k : ∀ b u, h.get? b = some u → h'.get? b = some u) : Un fs ex H H h h' :=
  ⟨fun b ob q _ _ _ => k b ob q, fun b ob q _ _ _ => ⟨ob.slots, k b ob q⟩, fun _ _ _ n _ => n, fun b ob q _ => ⟨ob, k b ob q⟩, fun _ _ q => q, fun _ _ _ q => q, fun _ ps q => ⟨#[], by rw [q]; simp⟩⟩
theorem Un.refl : Un fs ex H H h h := Un.kept fun _ _ q => q
theorem Un.laid (k : ∀ b u, h.get? b = some u → h'.get? b = some u) (hp : h.objs.size ≤ a) (hn : H a = none) : Un fs ex H (upd H a o) h h' where
  keep := fun b u q _ _ _ => k b u q
  slot := fun b u q _ _ _ => ⟨u.slots, k b u q⟩
  free := fun b u q n _ => by rw [upd_ne (Nat.ne_of_lt (Nat.lt_of_lt_of_le (Heap.lt_size q) hp))]; exact n
  there := fun b u q _ => ⟨u, k b u q⟩
  tups := fun b xs q => by rw [upd_ne (ne_of_none q hn)]; exact q
  frzs := fun b u xs q => by rw [upd_ne (ne_of_none q hn)]; exact q
  tbls := fun b ps q => ⟨#[], by rw [upd_ne (ne_of_none q hn), q]; simp⟩
theorem Un.write (mu : Mut (H x)) (he : e = x ∨ H e = some (.own x)) (k : ∀ b u, b ≠ e → h.get? b = some u → h'.get? b = some u) (heo : ∃ u, h'.get? e = some u) : Un fs ex H (upd H x o) h h' := by
  have hx : ∀ b, H b = none → b ≠ x := fun b n z => by subst z; rw [n] at mu; exact mu
  have hb : ∀ b, H b = none → b ≠ e := fun b n z => by
    subst z
    rcases he with r | r
    · exact hx b n r
    · rw [n] at r; cases r
  have hm : ∀ b u, H b = some u → ¬ Mut (some u) → b ≠ x := fun b u q nm z => by subst z; rw [q] at mu; exact nm mu
  refine ⟨fun b u q n _ _ => k b u (hb b n) q, fun b u q n _ _ => ⟨u.slots, k b u (hb b n) q⟩, fun b u q n _ => by rw [upd_ne (hx b n)]; exact n, fun b u q _ => ?_,
    fun b xs q => by rw [upd_ne (hm b _ q fun z => z)]; exact q, fun b u xs q => by rw [upd_ne (hm b _ q fun z => z)]; exact q, fun b ps q => ⟨#[], by rw [upd_ne (hm b _ q fun z => z), q]; simp⟩⟩
  by_cases hbe : b = e
  · subst hbe; exact heo
  · exact ⟨u, k b u hbe q⟩
theorem Un.mono (u : Un fs ex H H1 h h1) (hs : ∀ b ∈ fs, b ∈ fs') (hx : ∀ b ∈ ex, b ∈ ex') : Un fs' ex' H H1 h h1 :=
  ⟨fun b ob q n hb he => u.keep b ob q n (fun z => hb (hs b z)) fun z => he (hx b z), fun _ _ q n _ he => u.any q n fun z => he (hx _ z), fun b ob q n he => u.free b ob q n fun z => he (hx b z), fun b ob q he => u.there b ob q fun z => he (hx b z), u.tups, u.frzs, u.tbls⟩
end
def trk (h : Heap) (H : Hp) : List Addr := (List.range h.objs.size).filter fun a => (H a).isSome
def hidT (h : Heap) (H : Hp) : Heap := PySem.W.hideAll h (trk h H)
theorem hidT_size (h : Heap) (H : Hp) : (hidT h H).objs.size = h.objs.size := PySem.W.hideAll_size _ _
theorem hidT_get {h : Heap} {H : Hp} {b : Addr} {o : Obj} (e : h.get? b = some o) (n : H b = none) : (hidT h H).get? b = some o :=
  PySem.W.hideAll_get _ e fun hm => by
    have q : (H b).isSome = true := (List.mem_filter.mp hm).2
    rw [n] at q; simp at q
theorem of_hidT {h : Heap} {H : Hp} {b : Addr} {o : Obj} (e : (hidT h H).get? b = some o) : h.get? b = some o ∧ H b = none := by
  have e' : h.get? b = some o := PySem.W.of_hideAll (trk h H) e
  refine ⟨e', ?_⟩
  cases q : H b with
  | none => rfl
  | some x =>
    have hm : b ∈ trk h H := List.mem_filter.mpr ⟨List.mem_range.mpr (Heap.lt_size e'), by simp [q]⟩
    have z : (hidT h H).get? b = none := PySem.W.hideAll_none (trk h H) hm
    rw [z] at e; cases e
def allNews (g h : Heap) (L : Addr) : List (Addr × Obj) := (List.range h.objs.size).filterMap fun a => if a = L ∨ (g.get? a).isSome = true then none else (h.get? a).map fun o => (a, o)
def rest (g h : Heap) (L d : Addr) : List (Addr × Obj) := (allNews g h L).filter fun p => decide (p.1 ≠ d)
end L2
namespace L2
open PySem PySem.Spec PyProof.Rows
structure Mod (K : PySem.W.Frag) (mg : Str → Option Value) (base : Heap) : Prop where
  kin : K.In base
  glob : base.Ns mainGlobals mg
  blt : ∃ mb, base.Ns builtinsNs mb ∧ ∀ x : Str, x ≠ "__name__" → mb x = bootBuiltins x
  nolimit : base.NoLimit
structure Cx where
  prog : Program
  w : World
  K : PySem.W.Frag
  mg : Str → Option Value
  base : Heap
  A : Around
  N : List Str
  s_0 : Shared
  H_0 : Hp
  env : Env
  outer : List Env
  stack : List Env
  ex : List Addr
  fn : Str → Bool
  calm : Bool
  pn : List (Addr × Obj)
  xe : Value → Shared → Prop
def frs (l : List Env) : List Addr := l.filterMap (·.frame)
abbrev Cx.fs (X : Cx) : List Addr := frs X.outer
def Vis (sc : Scope) (x : Str) : Prop := sc.names.lookup x = some .local ∨ sc.names.lookup x = some .cell ∨ sc.names.lookup x = some .free
def Loc (sc : Scope) (x : Str) : Prop := sc.names.lookup x = some .local ∨ sc.names.lookup x = some .cell
def Look (env : Env) (h : Heap) (m : Str → Option Value) (x : Str) (u : Value) : Prop :=
  (env.kindOf x = some .local ∧ m x = some u) ∨ ((env.kindOf x = some .cell ∨ env.kindOf x = some .free) ∧ ∃ c, env.cells.lookup x = some c ∧ h.IsCell c (some u))
structure Cx.Ok (X : Cx) : Prop where
  mod : Mod X.K X.mg X.base
  kind : X.env.scope.kind = .function
  glob : X.env.globals = mainGlobals
  blt : X.env.builtins = builtinsNs
  above : X.s_0.heap.objs.size ≤ X.env.locals
  inj : ∀ x y c, X.env.cells.lookup x = some c → X.env.cells.lookup y = some c → x = y
  has : ∀ x, (X.env.kindOf x = some .cell ∨ X.env.kindOf x = some .free) → ∃ c, X.env.cells.lookup x = some c
  cab : ∀ x c, X.fn x = true → X.env.cells.lookup x = some c → X.s_0.heap.objs.size ≤ c
  hd : X.calm = true → X.A.handled = none
  frames : X.A.frames = some X.stack
  stk : X.stack = X.outer ∨ (X.stack = X.env :: X.outer ∧ X.env.frame = some X.env.locals)
  exf : ∀ b ∈ X.ex, b ≠ X.env.locals ∧ ∀ x c, X.env.cells.lookup x = some c → c ≠ b
  bs : ∀ b o, X.base.get? b = some o → X.s_0.heap.get? b = some o ∧ X.H_0 b = none
  bsz : X.base.objs.size ≤ X.s_0.heap.objs.size
  noex : ∀ b o, X.base.get? b = some o → b ∉ X.ex
  exfs : ∀ b ∈ X.ex, b ∉ X.fs
  funs : X.s_0.heap.FunFrames X.base X.outer
  frf : ∀ b ∈ X.fs, X.H_0 b = none
structure Inv (X : Cx) (pins : List (Addr × Obj)) (σ : List (Option V)) (H : Hp) (s : Shared) : Prop where
  ok : X.Ok
  os : s.os = X.s_0.os
  bare : AllBare s.gens
  base : Un X.fs X.ex X.H_0 H X.s_0.heap s.heap
  loc : ∃ m, s.heap.Ns X.env.locals m ∧ ∀ (i : Nat) (x : Str) (v : V), X.N[i]? = some x → σ[i]? = some (some v) → Vis X.env.scope x → ∃ u, RelV v u ∧ Look X.env s.heap m x u
  cell : ∀ x c, X.env.cells.lookup x = some c → ∃ v, s.heap.IsCell c v
  free : H X.env.locals = none
  freeC : ∀ x c, X.env.cells.lookup x = some c → H c = none
  pin : ∀ p ∈ X.pn ++ pins, s.heap.get? p.1 = some p.2 ∧ H p.1 = none ∧ p.1 ≠ X.env.locals ∧ p.1 ∉ X.fs ∧ ∀ v, p.2.data ≠ .cell v
  hok : HOk X.prog X.w H s.heap
  len : σ.length = X.N.length
section
variable {X : Cx} {pins : List (Addr × Obj)} {σ : List (Option V)} {H H' : Hp} {s : Shared} {h' : Heap}
theorem Cx.Ok.nofr (ok : X.Ok) {b : Addr} {o : Obj} (e : X.base.get? b = some o) : b ∉ X.fs := fun hb => by
  have := (ok.funs.mem hb).1
  rw [e] at this; cases this
theorem Inv.bs (I : Inv X pins σ H s) : ∀ b o, X.base.get? b = some o → s.heap.get? b = some o ∧ H b = none := fun b o e =>
  ⟨I.base.keep b o (I.ok.bs b o e).1 (I.ok.bs b o e).2 (I.ok.nofr e) (I.ok.noex b o e), I.base.free b o (I.ok.bs b o e).1 (I.ok.bs b o e).2 (I.ok.noex b o e)⟩
theorem Inv.bk (I : Inv X pins σ H s) : ∀ b o, X.base.get? b = some o → s.heap.get? b = some o := fun b o e => (I.bs b o e).1
theorem Inv.mod (I : Inv X pins σ H s) : Mod X.K X.mg X.base := I.ok.mod
theorem Inv.kIn (I : Inv X pins σ H s) : X.K.In s.heap := I.ok.mod.kin.keeps I.bk
theorem Inv.nolimit (I : Inv X pins σ H s) : s.heap.NoLimit := I.ok.mod.nolimit.keeps I.bk
theorem Inv.fr (I : Inv X pins σ H s) : ∃ m, Fr X.base X.env.locals s.heap m :=
  let ⟨m, hn, _⟩ := I.loc
  ⟨m, hn, I.bk, Nat.le_trans I.ok.bsz I.ok.above⟩
theorem Inv.lt (I : Inv X pins σ H s) : X.env.locals < s.heap.objs.size := let ⟨_, hn, _⟩ := I.loc; hn.lt
theorem Inv.sz (I : Inv X pins σ H s) : X.s_0.heap.objs.size ≤ s.heap.objs.size := Nat.le_trans I.ok.above (Nat.le_of_lt I.lt)
theorem Inv.nofs (I : Inv X pins σ H s) {a : Addr} (h : s.heap.objs.size ≤ a) : a ∉ X.fs := fun hb => by
  obtain ⟨_, o, ho, _⟩ := I.ok.funs.mem hb
  exact absurd (Nat.lt_of_lt_of_le (Heap.lt_size ho) (Nat.le_trans I.sz h)) (Nat.lt_irrefl _)
theorem Inv.cne (I : Inv X pins σ H s) : ∀ x c, X.env.cells.lookup x = some c → c ≠ X.env.locals := fun x c e z => by
  obtain ⟨v, o, ho, hd⟩ := I.cell x c e
  obtain ⟨m, ⟨o', es, ep, ho', hd', _⟩, _⟩ := I.loc
  rw [z, ho'] at ho; cases ho; rw [hd'] at hd; cases hd
theorem Inv.funs (I : Inv X pins σ H s) : s.heap.FunFrames X.base X.outer := by
  have all : ∀ (l : List Env), (∀ b ∈ frs l, b ∈ X.fs) → X.s_0.heap.FunFrames X.base l → s.heap.FunFrames X.base l := by
    intro l
    induction l with
    | nil => intro _ _; trivial
    | cons env r ih =>
      intro hs hl
      obtain ⟨hk, ⟨L, o, hf, hn, ho, hd⟩, hr⟩ := hl
      have hL : L ∈ X.fs := hs L (by unfold frs; rw [List.filterMap_cons, hf]; exact List.mem_cons_self)
      obtain ⟨sl, e⟩ := I.base.slot L o ho (I.ok.frf L hL) hL fun z => I.ok.exfs L z hL
      exact ⟨hk, ⟨L, _, hf, hn, e, hd⟩, ih (fun b hb => hs b (by unfold frs; rw [List.filterMap_cons, hf]; exact List.mem_cons_of_mem _ hb)) hr⟩
  exact all X.outer (fun _ hb => hb) I.ok.funs
theorem Inv.stack (I : Inv X pins σ H s) : s.heap.FunFrames X.base X.stack := by
  rcases I.ok.stk with e | ⟨e, hf⟩
  · rw [e]; exact I.funs
  · rw [e]
    obtain ⟨m, hn, _⟩ := I.loc
    refine .cons (by rw [I.ok.kind]; decide) hf hn ?_ I.funs
    exact Heap.get?_none_of_le (Nat.le_trans I.ok.bsz I.ok.above)
theorem Inv.stkSub (I : Inv X pins σ H s) : ∀ b ∈ frs X.stack, b ∈ X.env.locals :: X.fs := fun b hb => by
  rcases I.ok.stk with e | ⟨e, hf⟩
  · rw [e] at hb; exact List.mem_cons_of_mem _ hb
  · rw [e] at hb
    unfold frs at hb
    rw [List.filterMap_cons, hf] at hb
    exact hb
theorem Inv.stkFree (I : Inv X pins σ H s) : ∀ b ∈ frs X.stack, H b = none := fun b hb => by
  rcases List.mem_cons.mp (I.stkSub b hb) with e | hb
  · rw [e]; exact I.free
  · obtain ⟨_, o, ho, _⟩ := I.ok.funs.mem hb
    exact I.base.free b o ho (I.ok.frf b hb) fun z => I.ok.exfs b z hb
theorem Inv.step {g' : Array GenState} {t' : Nat} {d' : Drawn} {ch : List Addr} (I : Inv X pins σ H s)
    (hch : ∀ b ∈ ch, (b ∈ X.ex ∨ X.s_0.heap.objs.size ≤ b) ∧ b ≠ X.env.locals ∧ (∀ x c, X.env.cells.lookup x = some c → c ≠ b) ∧ ∀ p ∈ X.pn ++ pins, p.1 ≠ b)
    (keep : ∀ b o, b ≠ X.env.locals → b ∉ X.fs → b ∉ ch → s.heap.get? b = some o → H b = none → h'.get? b = some o)
    (slot : ∀ b o, b ≠ X.env.locals → b ∈ X.fs → b ∉ ch → s.heap.get? b = some o → H b = none → ∃ sl, h'.get? b = some { o with slots := sl }) (free : ∀ b o, b ∉ ch → s.heap.get? b = some o → H b = none → H' b = none)
    (there : ∀ b o, b ∉ ch → s.heap.get? b = some o → ∃ o', h'.get? b = some o')
    (tups : ∀ b xs, H b = some (.tup xs) → H' b = some (.tup xs)) (frzs : ∀ b o u, H b = some (.frz o u) → H' b = some (.frz o u)) (tbls : ∀ b ps, H b = some (.tbl ps) → ∃ more, H' b = some (.tbl (ps ++ more)))
    (ns : ∀ m, s.heap.Ns X.env.locals m → h'.Ns X.env.locals m) (hok : HOk X.prog X.w H' h') (hg : AllBare g') :
    Inv X pins σ H' { s with heap := h', gens := g', drawn := d', toks := t' } := by
  have neL : ∀ b o, X.s_0.heap.get? b = some o → b ≠ X.env.locals := fun b o e => Nat.ne_of_lt (Nat.lt_of_lt_of_le (Heap.lt_size e) I.ok.above)
  have neC : ∀ b o, X.s_0.heap.get? b = some o → b ∉ X.ex → b ∉ ch := fun b o e hx hb => by
    rcases (hch b hb).1 with z | z
    · exact hx z
    · exact absurd (Nat.lt_of_lt_of_le (Heap.lt_size e) z) (Nat.lt_irrefl _)
  have cellK : ∀ x c, X.env.cells.lookup x = some c → ∀ v, s.heap.IsCell c v → h'.IsCell c v := fun x c e v ⟨o, ho, hd⟩ => by
    have nch : c ∉ ch := fun z => (hch c z).2.2.1 x c e rfl
    by_cases hc : c ∈ X.fs
    · obtain ⟨sl, q⟩ := slot c o (I.cne x c e) hc nch ho (I.freeC x c e)
      exact ⟨_, q, hd⟩
    · exact ⟨o, keep c o (I.cne x c e) hc nch ho (I.freeC x c e), hd⟩
  refine ⟨I.ok, I.os, hg, ⟨fun b o e n hb hx => ?_, fun b o e n hb hx => ?_, fun b o e n hx => ?_, fun b o e hx => ?_, fun b xs e => tups b xs (I.base.tups b xs e), fun b o xs e => frzs b o xs (I.base.frzs b o xs e), fun b ps e => ?_⟩, ?_, fun x c e => ?_, ?_, fun x c e => ?_, fun p hp => ?_, hok, I.len⟩
  · exact keep b o (neL b o e) hb (neC b o e hx) (I.base.keep b o e n hb hx) (I.base.free b o e n hx)
  · obtain ⟨sl, e1⟩ := I.base.slot b o e n hb hx
    obtain ⟨sl', e2⟩ := slot b _ (neL b o e) hb (neC b o e hx) e1 (I.base.free b o e n hx)
    exact ⟨sl', e2⟩
  · obtain ⟨o', e1⟩ := I.base.there b o e hx
    exact free b o' (neC b o e hx) e1 (I.base.free b o e n hx)
  · obtain ⟨o', e1⟩ := I.base.there b o e hx
    exact there b o' (neC b o e hx) e1
  · obtain ⟨m1, e1⟩ := I.base.tbls b ps e
    obtain ⟨m2, e2⟩ := tbls b _ e1
    exact ⟨m1 ++ m2, by rw [e2, Array.append_assoc]⟩
  · obtain ⟨m, hn, hl⟩ := I.loc
    refine ⟨m, ns m hn, fun i x v e1 e2 e3 => ?_⟩
    obtain ⟨u, r, l⟩ := hl i x v e1 e2 e3
    refine ⟨u, r, ?_⟩
    rcases l with l | ⟨k, c, e, z⟩
    · exact .inl l
    · exact .inr ⟨k, c, e, cellK x c e _ z⟩
  · obtain ⟨v, z⟩ := I.cell x c e
    exact ⟨v, cellK x c e v z⟩
  · obtain ⟨m, ⟨o, _, _, ho, _⟩, _⟩ := I.loc
    exact free _ o (fun z => (hch _ z).2.1 rfl) ho I.free
  · obtain ⟨v, o, ho, hd⟩ := I.cell x c e
    exact free c o (fun z => (hch c z).2.2.1 x c e rfl) ho (I.freeC x c e)
  · obtain ⟨e, n, ne, nf, d⟩ := I.pin p hp
    have nch : p.1 ∉ ch := fun z => (hch p.1 z).2.2.2 p hp rfl
    exact ⟨keep p.1 p.2 ne nf nch e n, free p.1 p.2 nch e n, ne, nf, d⟩
theorem Inv.un {t' : Nat} (I : Inv X pins σ H s) (u : Un X.fs [] H H' s.heap h') (hok : HOk X.prog X.w H' h') : Inv X pins σ H' { s with heap := h', toks := t' } := by
  obtain ⟨m, ⟨o, es, ep, ho, r⟩, _⟩ := id I.loc
  obtain ⟨sl, hL⟩ := u.any ho I.free (by simp)
  exact I.step (g' := s.gens) (d' := s.drawn) (ch := []) (fun _ z => nomatch z) (fun b o _ hb _ e n => u.keep b o e n hb (by simp)) (fun b o _ hb _ e n => u.slot b o e n hb (by simp)) (fun b o _ e n => u.free b o e n (by simp)) (fun b o _ e => u.there b o e (by simp)) u.tups u.frzs u.tbls (fun m' hm => by
    obtain ⟨o', es', ep', ho', r'⟩ := hm
    rw [ho] at ho'; cases ho'
    exact ⟨_, es', ep', hL, r'⟩) hok I.bare
theorem Inv.call {g' : Array GenState} {t' : Nat} {d' : Drawn} {ch : List Addr} (I : Inv X pins σ H s) (u : Un (frs X.stack) ch H H' s.heap h') (hok : HOk X.prog X.w H' h') (hg : AllBare g')
    (hch : ∀ b ∈ ch, (b ∈ X.ex ∨ X.s_0.heap.objs.size ≤ b) ∧ b ≠ X.env.locals ∧ (∀ x c, X.env.cells.lookup x = some c → c ≠ b) ∧ ∀ p ∈ X.pn ++ pins, p.1 ≠ b) :
    Inv X pins σ H' { s with heap := h', gens := g', drawn := d', toks := t' } := by
  obtain ⟨m, ⟨o, es, ep, ho, r⟩, _⟩ := id I.loc
  obtain ⟨sl, hL⟩ := u.any ho I.free fun z => (hch _ z).2.1 rfl
  exact I.step (ch := ch) hch (fun b o hL hb hc e n => u.keep b o e n (fun z => (List.mem_cons.mp (I.stkSub b z)).elim hL hb) hc) (fun b o _ _ hc e n => u.any e n hc) (fun b o hc e n => u.free b o e n hc) (fun b o hc e => u.there b o e hc) u.tups u.frzs u.tbls (fun m' hm => by
    obtain ⟨o', es', ep', ho', r'⟩ := hm
    rw [ho] at ho'; cases ho'
    exact ⟨_, es', ep', hL, r'⟩) hok hg
theorem Inv.turned {t' : Nat} {it : Addr} (I : Inv X pins σ H s) (k : ∀ b o, b ≠ it → s.heap.get? b = some o → h'.get? b = some o) (hn : H it = none) (hL : it ≠ X.env.locals)
    (h1 : it ∈ X.ex ∨ X.s_0.heap.objs.size ≤ it) (h2 : ∀ x c, X.env.cells.lookup x = some c → c ≠ it) (h3 : ∀ p ∈ X.pn ++ pins, p.1 ≠ it) : Inv X pins σ H { s with heap := h', toks := t' } := by
  have nit : ∀ b u, H b = some u → b ≠ it := fun b u e z => by rw [z, hn] at e; cases e
  refine I.step (g' := s.gens) (d' := s.drawn) (ch := [it]) (fun b hb => ?_) (fun b o _ _ hc e _ => k b o (fun z => hc (by simp [z])) e) (fun b o _ _ hc e _ => ⟨o.slots, k b o (fun z => hc (by simp [z])) e⟩) (fun _ _ _ _ n => n)
    (fun b o hc e => ⟨o, k b o (fun z => hc (by simp [z])) e⟩) (fun _ _ e => e) (fun _ _ _ e => e) (fun b ps e => ⟨#[], by rw [e]; simp⟩) (fun m hm => ?_) (fun b u e => ?_) I.bare
  · have e : b = it := by simpa using hb
    subst e
    exact ⟨h1, hL, h2, h3⟩
  · obtain ⟨o, es, ep, ho, r⟩ := hm
    exact ⟨o, es, ep, k _ o (Ne.symm hL) ho, r⟩
  · refine (I.hok b u e).stay (fun c v hc q => k c v ?_ q) (fun _ q => q) fun _ _ q => q
    rcases hc with z | z
    · rw [z]; exact nit b u e
    · exact nit c _ z
theorem Inv.tok (I : Inv X pins σ H s) (t : Nat) : Inv X pins σ H { s with toks := t } := I.un (h' := s.heap) (t' := t) Un.refl I.hok
theorem Inv.kept {t' : Nat} (I : Inv X pins σ H s) (k : ∀ b u, s.heap.get? b = some u → h'.get? b = some u) : Inv X pins σ H { s with heap := h', toks := t' } := I.un (Un.kept k) (I.hok.kept k)
theorem Inv.laid {a : Addr} {o : HO} {t' : Nat} (I : Inv X pins σ H s) (k : ∀ b u, s.heap.get? b = some u → h'.get? b = some u) (hp : s.heap.objs.size ≤ a) (new : ObjOk X.prog X.w (upd H a o) h' a o) :
    Inv X pins σ (upd H a o) { s with heap := h', toks := t' } := I.un (Un.laid k hp (I.hok.fresh hp)) (I.hok.laid k hp new)
theorem Inv.write {x e : Addr} {o : HO} {t' : Nat} (I : Inv X pins σ H s) (mu : Mut (H x)) (he : e = x ∨ H e = some (.own x)) (k : ∀ b u, b ≠ e → s.heap.get? b = some u → h'.get? b = some u) (heo : ∃ u, h'.get? e = some u)
    (new : ObjOk X.prog X.w (upd H x o) h' x o) : Inv X pins σ (upd H x o) { s with heap := h', toks := t' } := I.un (Un.write mu he k heo) (I.hok.write mu he k heo new)
theorem Inv.weak {σ' : List (Option V)} (I : Inv X pins σ H s) (hl : σ'.length = σ.length) (w : ∀ (i : Nat) v, σ'[i]? = some (some v) → σ[i]? = some (some v)) : Inv X pins σ' H s :=
  ⟨I.ok, I.os, I.bare, I.base, let ⟨m, hn, hl'⟩ := I.loc; ⟨m, hn, fun i x v e1 e2 e3 => hl' i x v e1 (w i v e2) e3⟩, I.cell, I.free, I.freeC, I.pin, I.hok, hl.trans I.len⟩
theorem Inv.pins_of {pins' : List (Addr × Obj)} (I : Inv X pins σ H s) (h : ∀ p ∈ pins', s.heap.get? p.1 = some p.2 ∧ H p.1 = none ∧ p.1 ≠ X.env.locals ∧ p.1 ∉ X.fs ∧ ∀ v, p.2.data ≠ .cell v) : Inv X pins' σ H s :=
  ⟨I.ok, I.os, I.bare, I.base, I.loc, I.cell, I.free, I.freeC, fun p hp => (List.mem_append.mp hp).elim (fun z => I.pin p (List.mem_append_left _ z)) (h p), I.hok, I.len⟩
theorem nodup_ix {N : List Str} (hN : N.Nodup) {i j : Nat} {x : Str} (a : N[i]? = some x) (b : N[j]? = some x) : i = j := by
  obtain ⟨h1, e1⟩ := List.getElem?_eq_some_iff.mp a
  obtain ⟨h2, e2⟩ := List.getElem?_eq_some_iff.mp b
  exact (List.getElem_inj hN).mp (e1.trans e2.symm)
theorem store_ok2 {M : Model} {A : Around} {E : Value → Shared → Prop} {i : Nat} {x : Str} {v : V} {u : Value} {Q : Unit → Shared → Prop} (I : Inv X pins σ H s) (hN : X.N.Nodup) (hi : X.N[i]? = some x) (hx : Loc X.env.scope x) (r : RelV v u)
    (h : ∀ s', Inv X pins (σ.set i (some v)) H s' → (∃ a, Heap.SameBut a s.heap s'.heap ∧ (a = X.env.locals ∨ X.env.cells.lookup x = some a)) → Q () s') (hf : X.fn x = true ∨ X.env.scope.names.lookup x = some .local := by first | exact .inl rfl | exact .inr rfl | assumption) : wpAny M A (storeName X.env x u) Q E s := by
  obtain ⟨m, hn, hl⟩ := id I.loc
  have hcls : (X.env.scope.kind == .class || (X.env.scope.kind == .module && X.env.locals != X.env.globals)) = false := by rw [I.ok.kind]; rfl
  have hiσ : i < σ.length := by rw [I.len]; exact (List.getElem?_eq_some_iff.mp hi).1
  have cne := I.cne
  have tracked : ∀ {a : Addr} {h' : Heap}, (∃ o, s.heap.get? a = some o ∧ H a = none) → Heap.SameBut a s.heap h' → HOk X.prog X.w H h' := fun {a h'} ha hs b ob e => by
    obtain ⟨_, _, hfree⟩ := ha
    refine (I.hok b ob e).stay (fun c w' hc q => (hs.2 c ?_).trans q) (fun _ q => q) fun _ _ q => q
    rintro rfl
    rcases hc with rfl | hc
    · rw [hfree] at e; cases e
    · rw [hfree] at hc; cases hc
  rcases hx with hk | hk
  · refine wpAny_storeName_local hk hn (fun h' hn' hs => ?_) hcls
    obtain ⟨oL, _, _, hoL, _⟩ := id hn
    refine h _ ⟨I.ok, I.os, I.bare, ⟨fun b o e n hb hx => ?_, fun b o e n hb hx => ?_, I.base.free, fun b o e hx => ?_, I.base.tups, I.base.frzs, I.base.tbls⟩, ⟨_, hn', fun j y v' e1 e2 e3 => ?_⟩, fun y c e => ?_, I.free, I.freeC, fun p hp => ?_, tracked ⟨oL, hoL, I.free⟩ hs, by simpa using I.len⟩ ⟨_, hs, .inl rfl⟩
    · exact (hs.2 b (Nat.ne_of_lt (Nat.lt_of_lt_of_le (Heap.lt_size e) I.ok.above))).trans (I.base.keep b o e n hb hx)
    · obtain ⟨sl, e1⟩ := I.base.slot b o e n hb hx
      exact ⟨sl, (hs.2 b (Nat.ne_of_lt (Nat.lt_of_lt_of_le (Heap.lt_size e) I.ok.above))).trans e1⟩
    · obtain ⟨o', e1⟩ := I.base.there b o e hx
      exact ⟨o', (hs.2 b (Nat.ne_of_lt (Nat.lt_of_lt_of_le (Heap.lt_size e) I.ok.above))).trans e1⟩
    · by_cases hj : j = i
      · subst hj
        rw [hi] at e1; cases e1
        rw [List.getElem?_set_self hiσ] at e2
        cases e2
        exact ⟨u, r, .inl ⟨hk, by simp⟩⟩
      · rw [List.getElem?_set_ne (Ne.symm hj)] at e2
        obtain ⟨u', r', q⟩ := hl j y v' e1 e2 e3
        refine ⟨u', r', ?_⟩
        rcases q with ⟨k, e⟩ | ⟨k, c, e, z⟩
        · refine .inl ⟨k, ?_⟩
          have : y ≠ x := fun e => hj (nodup_ix hN e1 (e ▸ hi))
          simp [this, e]
        · exact .inr ⟨k, c, e, z.sameBut hs (cne y c e)⟩
    · obtain ⟨w', z⟩ := I.cell y c e
      exact ⟨w', z.sameBut hs (cne y c e)⟩
    · obtain ⟨e, n, ne, nf, d⟩ := I.pin p hp
      exact ⟨(hs.2 p.1 ne).trans e, n, ne, nf, d⟩
  · have hfn : X.fn x = true := by
      rcases hf with z | z
      · exact z
      · rw [z] at hk; cases hk
    obtain ⟨c, hc⟩ := I.ok.has x (.inl hk)
    obtain ⟨w', z⟩ := I.cell x c hc
    refine wpAny_storeName_cell I.ok.kind hk hc z (fun h' hc' hs => ?_)
    obtain ⟨oc, hoc, hocd⟩ := id z
    refine h { s with heap := h' } ⟨I.ok, I.os, I.bare, ⟨fun b o e n hb hx => ?_, fun b o e n hb hx => ?_, I.base.free, fun b o e hx => ?_, I.base.tups, I.base.frzs, I.base.tbls⟩, ⟨m, hn.sameBut hs (Ne.symm (cne x c hc)), fun j y v' e1 e2 e3 => ?_⟩, fun y c' e => ?_, I.free, I.freeC, fun p hp => ?_, tracked ⟨oc, hoc, I.freeC x c hc⟩ hs, by simpa using I.len⟩ ⟨c, hs, .inr hc⟩
    · exact (hs.2 b (Nat.ne_of_lt (Nat.lt_of_lt_of_le (Heap.lt_size e) (I.ok.cab x c hfn hc)))).trans (I.base.keep b o e n hb hx)
    · obtain ⟨sl, e1⟩ := I.base.slot b o e n hb hx
      exact ⟨sl, (hs.2 b (Nat.ne_of_lt (Nat.lt_of_lt_of_le (Heap.lt_size e) (I.ok.cab x c hfn hc)))).trans e1⟩
    · obtain ⟨o', e1⟩ := I.base.there b o e hx
      exact ⟨o', (hs.2 b (Nat.ne_of_lt (Nat.lt_of_lt_of_le (Heap.lt_size e) (I.ok.cab x c hfn hc)))).trans e1⟩
    · by_cases hj : j = i
      · subst hj
        rw [hi] at e1; cases e1
        rw [List.getElem?_set_self hiσ] at e2
        cases e2
        exact ⟨u, r, .inr ⟨.inl hk, c, hc, hc'⟩⟩
      · rw [List.getElem?_set_ne (Ne.symm hj)] at e2
        obtain ⟨u', r', q⟩ := hl j y v' e1 e2 e3
        refine ⟨u', r', ?_⟩
        rcases q with q | ⟨k, c', e, z'⟩
        · exact .inl q
        · refine .inr ⟨k, c', e, z'.sameBut hs ?_⟩
          rintro rfl
          exact hj (nodup_ix hN e1 (I.ok.inj _ _ _ e hc ▸ hi))
    · by_cases hcc : c' = c
      · subst hcc; exact ⟨_, hc'⟩
      · obtain ⟨w2, z2⟩ := I.cell y c' e
        exact ⟨w2, z2.sameBut hs hcc⟩
    · obtain ⟨e, n, ne, nf, d⟩ := I.pin p hp
      refine ⟨(hs.2 p.1 ?_).trans e, n, ne, nf, d⟩
      intro q
      rw [q, hoc] at e
      have q' : oc = p.2 := Option.some.inj e
      exact d w' (by rw [← q']; exact hocd)
theorem store_ok {M : Model} {A : Around} {E : Value → Shared → Prop} {i : Nat} {x : Str} {v : V} {u : Value} {Q : Unit → Shared → Prop} (I : Inv X pins σ H s) (hN : X.N.Nodup) (hi : X.N[i]? = some x) (hx : Loc X.env.scope x) (r : RelV v u)
    (h : ∀ s', Inv X pins (σ.set i (some v)) H s' → Q () s') (hf : X.fn x = true ∨ X.env.scope.names.lookup x = some .local := by first | exact .inl rfl | exact .inr rfl | assumption) : wpAny M A (storeName X.env x u) Q E s :=
  store_ok2 I hN hi hx r (fun s' I' _ => h s' I') hf
theorem Inv.call' {s' : Shared} {ch : List Addr} (I : Inv X pins σ H s) (ho : s'.os = s.os) (u : Un (frs X.stack) ch H H' s.heap s'.heap) (hok : HOk X.prog X.w H' s'.heap) (hg : AllBare s'.gens)
    (hch : ∀ b ∈ ch, (b ∈ X.ex ∨ X.s_0.heap.objs.size ≤ b) ∧ b ≠ X.env.locals ∧ (∀ x c, X.env.cells.lookup x = some c → c ≠ b) ∧ ∀ p ∈ X.pn ++ pins, p.1 ≠ b) : Inv X pins σ H' s' := by
  obtain ⟨h', g', d', t', o'⟩ := s'
  have e : o' = s.os := ho
  subst e
  exact I.call (g' := g') (t' := t') (d' := d') u hok hg hch
end
abbrev XK := Value → Option Addr → Hp → Prop
abbrev St := List (Option V)
abbrev VK := V → Hp → Prop
abbrev TE := St → Hp → VK → Prop
abbrev TT := St → Hp → (Bool → Hp → Prop) → Prop
abbrev TA := St → Hp → (List V → Hp → Prop) → Prop
structure Ends where
  nx : St → Hp → Prop
  rt : VK
  bk : St → Hp → Prop := fun _ _ => False
  ct : St → Hp → Prop := fun _ _ => False
abbrev TS := Ends → St → Hp → Prop
def EP (X : Cx) (pins : List (Addr × Obj)) (σ : St) (Q : VK) (u : Value) (s' : Shared) : Prop := ∃ v H', Inv X pins σ H' s' ∧ RelV v u ∧ Q v H'
def TP (X : Cx) (pins : List (Addr × Obj)) (σ : St) (Q : Bool → Hp → Prop) (b : Bool) (s' : Shared) : Prop := ∃ H', Inv X pins σ H' s' ∧ Q b H'
def AP (X : Cx) (pins : List (Addr × Obj)) (σ : St) (Q : List V → Hp → Prop) (us : List Value) (s' : Shared) : Prop := ∃ vs H', Inv X pins σ H' s' ∧ Vals vs us ∧ Q vs H'
def SP (X : Cx) (pins : List (Addr × Obj)) (D : Ends) (f : Flow) (s' : Shared) : Prop :=
  match f with
  | .next => ∃ σ' H', Inv X pins σ' H' s' ∧ D.nx σ' H'
  | .brk => ∃ σ' H', Inv X pins σ' H' s' ∧ D.bk σ' H'
  | .cont => ∃ σ' H', Inv X pins σ' H' s' ∧ D.ct σ' H'
  | .ret u => ∃ v σ' H', Inv X pins σ' H' s' ∧ RelV v u ∧ D.rt v H'
def PE (X : Cx) (e : Expr) (t : TE) : Prop :=
  ∀ (pins : List (Addr × Obj)) (s : Shared) (σ : St) (H : Hp) (Q : VK), Inv X pins σ H s → t σ H Q → wpAny (model X.prog X.w) X.A (eval e X.env) (EP X pins σ Q) X.xe s
def PT (X : Cx) (e : Expr) (t : TT) : Prop :=
  ∀ (pins : List (Addr × Obj)) (s : Shared) (σ : St) (H : Hp) (Q : Bool → Hp → Prop), Inv X pins σ H s → t σ H Q → wpAny (model X.prog X.w) X.A (isTrue e X.env (eval e X.env)) (TP X pins σ Q) X.xe s
def PW (X : Cx) (e : Expr) (t : TT) : Prop :=
  ∀ (whole : Sem Value) (pins : List (Addr × Obj)) (s : Shared) (σ : St) (H : Hp) (Q : Bool → Hp → Prop), Inv X pins σ H s → t σ H Q → wpAny (model X.prog X.w) X.A (isTrue e X.env whole) (TP X pins σ Q) X.xe s
theorem PW.pt {X : Cx} {e : Expr} {t : TT} (h : PW X e t) : PT X e t := h _
def PA (X : Cx) (es : List Expr) (t : TA) : Prop :=
  ∀ (pos : Pos) (pins : List (Addr × Obj)) (s : Shared) (σ : St) (H : Hp) (Q : List V → Hp → Prop), Inv X pins σ H s → t σ H Q → wpAny (model X.prog X.w) X.A (spliced (backTo pos (starEach es X.env))) (AP X pins σ Q) X.xe s
def PS (X : Cx) (st : Stmt) (t : TS) : Prop :=
  ∀ (pins : List (Addr × Obj)) (s : Shared) (σ : St) (H : Hp) (D : Ends), Inv X pins σ H s → t D σ H → wpAny (model X.prog X.w) X.A (exec st X.env) (SP X pins D) X.xe s
def PSs (X : Cx) (st : List Stmt) (t : TS) : Prop :=
  ∀ (pins : List (Addr × Obj)) (s : Shared) (σ : St) (H : Hp) (D : Ends), Inv X pins σ H s → t D σ H → wpAny (model X.prog X.w) X.A (execs st X.env) (SP X pins D) X.xe s
theorem thn {α : Type} {t : Sem α} {Q Q' : α → Shared → Prop} {M : Model} {A : Around} {E : Value → Shared → Prop} {s : Shared} (h : wpAny M A t Q E s) (hQ : ∀ a s, Q a s → Q' a s) : wpAny M A t Q' E s := wpAny_mono h hQ fun _ _ x => x
end L2
namespace L2
open PySem PySem.Spec PyProof.Rows
section
variable {X : Cx}
def tVar (i : Nat) : TE := fun σ H Q => ∃ v, σ[i]? = some (some v) ∧ Q v H
def tC (v : V) : TE := fun _ H Q => Q v H
theorem pe_var {i : Nat} {x : Str} {pos : Pos} (hN : X.N[i]? = some x) (hv : Vis X.env.scope x) (hd : (x == ("__debug__" : Str)) = false := by decide) (hcd : (x == ("__classdict__" : Str)) = false := by decide) : PE X (.Name x pos) (tVar i) := by
  intro pins s σ H Q I h
  obtain ⟨v, e, h⟩ := h
  obtain ⟨m, hn, hl⟩ := I.loc
  obtain ⟨u, r, l⟩ := hl i x v hN e hv
  have fin : EP X pins σ Q u s := ⟨v, H, I, r, h⟩
  rcases l with ⟨hk, hm⟩ | ⟨hk, c, hc, hcell⟩
  · exact wpAny_Name (wpAny_loadName_local I.ok.kind hk hn hm fin) hd
  · rcases hk with hk | hk
    · exact wpAny_Name (wpAny_loadName_cell I.ok.kind hk hc hcell fin) hd
    · exact wpAny_Name (wpAny_loadName_free I.ok.kind hk hc hcell fin hcd) hd
theorem pe_int {i j pos} : PE X (.Constant (.int i) j pos) (tC (.int i)) := fun _ _ _ H _ I h => wpAny_Constant_int ⟨.int i, H, I.tok _, ⟨_, rfl⟩, h⟩
theorem pe_bl {b j pos} : PE X (.Constant (.bool b) j pos) (tC (.bl b)) := fun _ _ _ H _ I h => Constant_bool ⟨.bl b, H, I, rfl, h⟩
theorem pe_non {j pos} : PE X (.Constant .none j pos) (tC .non) := fun _ _ _ H _ I h => Constant_none ⟨.non, H, I, rfl, h⟩
theorem pe_str {x j pos} : PE X (.Constant (.str x) j pos) (tC (.str x)) := fun _ _ _ H _ I h => Calls.Constant_str ⟨.str x, H, I.tok _, ⟨_, rfl⟩, h⟩
def Gl (X : Cx) (x : Str) : Prop := X.env.kindOf x = some .globalImplicit
theorem ld_glob {E : Value → Shared → Prop} {pins : List (Addr × Obj)} {s : Shared} {σ : St} {H : Hp} {x : Str} {u : Value} {pos : Pos} {Q : Value → Shared → Prop} (I : Inv X pins σ H s) (hg : Gl X x) (hm : X.mg x = some u) (h : Q u s)
    (hd : (x == ("__debug__" : Str)) = false := by decide) : wpAny (model X.prog X.w) X.A (eval (.Name x pos) X.env) Q E s :=
  Calls.Name_function_global I.ok.kind hg (Calls.loadGlobal_global (by rw [I.ok.glob]; exact I.mod.glob.keeps I.bk) hm h) hd
theorem ld_blt {E : Value → Shared → Prop} {pins : List (Addr × Obj)} {s : Shared} {σ : St} {H : Hp} {x : Str} {u : Value} {pos : Pos} {Q : Value → Shared → Prop} (I : Inv X pins σ H s) (hg : Gl X x) (hm : X.mg x = none) (hv : bootBuiltins x = some u) (h : Q u s)
    (hn : x ≠ "__name__" := by decide) (hd : (x == ("__debug__" : Str)) = false := by decide) : wpAny (model X.prog X.w) X.A (eval (.Name x pos) X.env) Q E s := by
  obtain ⟨mb, h1, h2⟩ := I.mod.blt
  exact Calls.Name_function_global I.ok.kind hg (Calls.loadGlobal_builtin (by rw [I.ok.glob]; exact I.mod.glob.keeps I.bk) hm (by rw [I.ok.blt]; exact h1.keeps I.bk) ((h2 x hn).trans hv) h) hd
theorem pe_glob {x : Str} {v : V} {u : Value} {pos : Pos} (hg : Gl X x) (hm : X.mg x = some u) (r : RelV v u) (hd : (x == ("__debug__" : Str)) = false := by decide) : PE X (.Name x pos) (tC v) :=
  fun _ _ _ H _ I h => ld_glob I hg hm ⟨v, H, I, r, h⟩ hd
variable {a b : Expr} {ta tb : TE} {pos : Pos}
def tB (t : TE) : TT := fun σ H Q => t σ H fun x H1 => ∃ c, x = .bl c ∧ Q c H1
theorem pt_val {e : Expr} {t : TE} (h : PE X e t) (he : ∀ whole, isTrue e X.env whole = (do let v ← whole; standAt e.pos; holding [v] (truthy v)) := by intro _; rfl) : PT X e (tB t) := by
  intro pins s σ H Q I hw
  refine isTrue_plain (thn (h pins s σ H _ I hw) fun v s1 ⟨x, H1, I1, r1, q1⟩ => ?_) (he _)
  obtain ⟨d, rfl, q⟩ := q1
  cases r1
  exact wpAny_truthy_bool ⟨H1, I1, q⟩
variable {tA tB' : TT} {rest : List Expr}
def tAnd (t u : TT) : TT := fun σ H Q => t σ H fun c H1 => if c = true then u σ H1 Q else Q false H1
def tOr (t u : TT) : TT := fun σ H Q => t σ H fun c H1 => if c = true then Q true H1 else u σ H1 Q
def tNot (t : TT) : TT := fun σ H Q => t σ H fun c H1 => Q (!c) H1
theorem pw_and1 (ha : PT X a tA) : PW X (.BoolOp .And [a] pos) tA := by
  intro wh pins s σ H Q I h
  refine isTrue_and (thn (ha pins s σ H Q I h) fun c s1 e => ?_)
  cases c with
  | true => exact isTrue_and_nil e
  | false => exact e
theorem pw_or1 (ha : PT X a tA) : PW X (.BoolOp .Or [a] pos) tA := by
  intro wh pins s σ H Q I h
  refine isTrue_or (thn (ha pins s σ H Q I h) fun c s1 e => ?_)
  cases c with
  | false => exact isTrue_or_nil e
  | true => exact e
theorem pw_and (ha : PT X a tA) (hb : PW X (.BoolOp .And (b :: rest) pos) tB') : PW X (.BoolOp .And (a :: b :: rest) pos) (tAnd tA tB') := by
  intro wh pins s σ H Q I h
  refine isTrue_and (thn (ha pins s σ H _ I h) fun c s1 ⟨H1, I1, q1⟩ => ?_)
  cases c with
  | true => exact hb wh pins s1 σ H1 Q I1 q1
  | false => exact ⟨H1, I1, q1⟩
theorem pw_or (ha : PT X a tA) (hb : PW X (.BoolOp .Or (b :: rest) pos) tB') : PW X (.BoolOp .Or (a :: b :: rest) pos) (tOr tA tB') := by
  intro wh pins s σ H Q I h
  refine isTrue_or (thn (ha pins s σ H _ I h) fun c s1 ⟨H1, I1, q1⟩ => ?_)
  cases c with
  | true => exact ⟨H1, I1, q1⟩
  | false => exact hb wh pins s1 σ H1 Q I1 q1
theorem pt_not (ha : PT X a tA) : PT X (.UnaryOp .Not a pos) (tNot tA) := by
  intro pins s σ H Q I h
  exact isTrue_not (ha pins s σ H (fun c H1 => Q (!c) H1) I h)
def tAndV (ta tb : TE) : TE := fun σ H Q => ta σ H fun x H1 => ∃ c, x = .bl c ∧ if c = true then tb σ H1 Q else Q (.bl false) H1
def tOrV (ta tb : TE) : TE := fun σ H Q => ta σ H fun x H1 => ∃ c, x = .bl c ∧ if c = true then Q (.bl true) H1 else tb σ H1 Q
theorem pe_one {op} {t : TE} (h : PE X a t) : PE X (.BoolOp op [a] pos) t := fun pins s σ H Q I hw => BoolOp_one (h pins s σ H Q I hw)
theorem pe_and (ha : PE X a ta) (hb : PE X (.BoolOp .And (b :: rest) pos) tb) : PE X (.BoolOp .And (a :: b :: rest) pos) (tAndV ta tb) := by
  intro pins s σ H Q I h
  refine BoolOp_and (thn (ha pins s σ H _ I h) fun v s1 ⟨x, H1, I1, r1, q1⟩ => ?_)
  obtain ⟨c, rfl, q1⟩ := q1
  cases r1
  refine wpAny_truthy_bool ?_
  cases c with
  | true => exact hb pins s1 σ H1 Q I1 q1
  | false => exact ⟨.bl false, H1, I1, rfl, q1⟩
theorem pe_or (ha : PE X a ta) (hb : PE X (.BoolOp .Or (b :: rest) pos) tb) : PE X (.BoolOp .Or (a :: b :: rest) pos) (tOrV ta tb) := by
  intro pins s σ H Q I h
  refine BoolOp_or (thn (ha pins s σ H _ I h) fun v s1 ⟨x, H1, I1, r1, q1⟩ => ?_)
  obtain ⟨c, rfl, q1⟩ := q1
  cases r1
  refine wpAny_truthy_bool ?_
  cases c with
  | false => exact hb pins s1 σ H1 Q I1 q1
  | true => exact ⟨.bl true, H1, I1, rfl, q1⟩
def tIf (t : TT) (ta tb : TE) : TE := fun σ H Q => t σ H fun c H1 => if c = true then ta σ H1 Q else tb σ H1 Q
theorem pe_ifExp {c : Expr} (hc : PT X c tA) (ha : PE X a ta) (hb : PE X b tb) : PE X (.IfExp c a b pos) (tIf tA ta tb) := by
  intro pins s σ H Q I h
  refine wpAny_IfExp (thn (hc pins s σ H _ I h) fun d s1 ⟨H1, I1, q1⟩ => ?_)
  cases d with
  | true => exact ha pins s1 σ H1 Q I1 q1
  | false => exact hb pins s1 σ H1 Q I1 q1
end
end L2
namespace L2
open PySem PySem.Spec PyProof.Rows
def SqL (K : PySem.W.Frag) (H : Hp) (a : Addr) (xs : List V) : Prop :=
  Rd H a (.lst xs) ∨
    ∃ (o : Obj) (its : Array Value) (n : Nat), K.lookup a = some o ∧ o.cls = .type "list" ∧ o.dict = none ∧ o.data = .seq its n ∧ its.size ≤ sizeLine ∧ Vals xs its.toList
def SqT (K : PySem.W.Frag) (H : Hp) (a : Addr) (xs : List V) : Prop :=
  Rd H a (.tup xs) ∨
    ∃ (o : Obj) (its : Array Value) (n : Nat), K.lookup a = some o ∧ o.cls = .type "tuple" ∧ o.data = .seq its n ∧ its.size ≤ sizeLine ∧ Vals xs its.toList
def absV : Value → Option V
  | .none => some .non
  | .bool b => some (.bl b)
  | .int i _ => some (.int i)
  | .str x _ => some (.str x)
  | .bytes b _ => some (.byt b)
  | .float b _ => some (.flt b)
  | .ref a => some (.ref a)
  | .type n => some (.ty n)
  | _ => none
theorem RelV.abs {x : V} {u : Value} (r : RelV x u) : absV u = some x := by
  cases x with
  | non => cases r; rfl
  | bl _ => cases r; rfl
  | int _ => obtain ⟨t, rfl⟩ := r; rfl
  | str _ => obtain ⟨t, rfl⟩ := r; rfl
  | byt _ => obtain ⟨t, rfl⟩ := r; rfl
  | flt _ => obtain ⟨t, rfl⟩ := r; rfl
  | ref _ => cases r; rfl
  | ty _ => cases r; rfl
theorem RelV.inj {x y : V} {u : Value} (r : RelV x u) (q : RelV y u) : x = y := Option.some.inj (r.abs.symm.trans q.abs)
theorem Vals.inj : ∀ {xs ys : List V} {us : List Value}, Vals xs us → Vals ys us → xs = ys
  | _, _, _, .nil, .nil => rfl
  | _, _, _, .cons r t, .cons r' t' => by rw [r.inj r', Vals.inj t t']
section
variable {X : Cx} {pins : List (Addr × Obj)} {σ : St} {H : Hp} {s : Shared} {a : Addr} {xs ys : List V}
theorem SqL.of {K : PySem.W.Frag} (h : H a = some (.lst xs)) : SqL K H a xs := .inl (.inl h)
theorem SqT.of {K : PySem.W.Frag} (h : H a = some (.tup xs)) : SqT K H a xs := .inl (.inl h)
theorem Inv.list (I : Inv X pins σ H s) (h : SqL X.K H a xs) : ∃ its : List Value, Vals xs its ∧ PlainL s.heap a its.toArray ∧ xs.length ≤ sizeLine := by
  rcases h with h | ⟨o, its, n, hk, hc, hd, hs, hz, r⟩
  · obtain ⟨z, its, n, r, e⟩ := h.ok I.hok
    exact ⟨its, r, ⟨_, n, e, rfl, rfl, rfl⟩, z⟩
  · refine ⟨its.toList, r, ⟨o, n, I.kIn a o hk, hc, hd, by simpa using hs⟩, ?_⟩
    have e := r.length
    simp only [Array.length_toList] at e
    omega
theorem Inv.tuple (I : Inv X pins σ H s) (h : SqT X.K H a xs) : ∃ its : List Value, Vals xs its ∧ IsTup s.heap a its.toArray ∧ xs.length ≤ sizeLine := by
  rcases h with h | ⟨o, its, n, hk, hc, hs, hz, r⟩
  · obtain ⟨z, its, r, p⟩ := h.ok I.hok
    exact ⟨its, r, p, z⟩
  · refine ⟨its.toList, r, ⟨o, I.kIn a o hk, hc, n, by simpa using hs⟩, ?_⟩
    have e := r.length
    simp only [Array.length_toList] at e
    omega
theorem Inv.list_inj (I : Inv X pins σ H s) (h : SqL X.K H a xs) (h' : SqL X.K H a ys) : xs = ys := by
  obtain ⟨its, r, ⟨o, n, e, _, _, d⟩, _⟩ := I.list h
  obtain ⟨its', r', ⟨o', n', e', _, _, d'⟩, _⟩ := I.list h'
  rw [e] at e'; cases e'
  rw [d] at d'
  injection d' with d1 _
  have : its = its' := by simpa using congrArg Array.toList d1
  subst this
  exact r.inj r'
theorem Inv.tuple_inj (I : Inv X pins σ H s) (h : SqT X.K H a xs) (h' : SqT X.K H a ys) : xs = ys := by
  obtain ⟨its, r, ⟨o, e, _, n, d⟩, _⟩ := I.tuple h
  obtain ⟨its', r', ⟨o', e', _, n', d'⟩, _⟩ := I.tuple h'
  rw [e] at e'; cases e'
  rw [d] at d'
  injection d' with d1 _
  have : its = its' := by simpa using congrArg Array.toList d1
  subst this
  exact r.inj r'
end
abbrev Cx.wish (X : Cx) (E : Value → Shared → Prop) : Cx := { X with xe := E }
abbrev Cx.nox (X : Cx) : Cx := X.wish fun _ _ => False
theorem Cx.Ok.wish {X : Cx} (ok : X.Ok) (E : Value → Shared → Prop) : (X.wish E).Ok :=
  ⟨ok.mod, ok.kind, ok.glob, ok.blt, ok.above, ok.inj, ok.has, ok.cab, ok.hd, ok.frames, ok.stk, ok.exf, ok.bs, ok.bsz, ok.noex, ok.exfs, ok.funs, ok.frf⟩
theorem Cx.Ok.unwish {X : Cx} {E : Value → Shared → Prop} (ok : (X.wish E).Ok) : X.Ok :=
  ⟨ok.mod, ok.kind, ok.glob, ok.blt, ok.above, ok.inj, ok.has, ok.cab, ok.hd, ok.frames, ok.stk, ok.exf, ok.bs, ok.bsz, ok.noex, ok.exfs, ok.funs, ok.frf⟩
section
variable {X : Cx} {pins : List (Addr × Obj)} {σ : St} {H : Hp} {s : Shared} {E : Value → Shared → Prop}
theorem Inv.wish (I : Inv X pins σ H s) (E : Value → Shared → Prop) : Inv (X.wish E) pins σ H s := ⟨I.ok.wish E, I.os, I.bare, I.base, I.loc, I.cell, I.free, I.freeC, I.pin, I.hok, I.len⟩
theorem Inv.unwish (I : Inv (X.wish E) pins σ H s) : Inv X pins σ H s := ⟨I.ok.unwish, I.os, I.bare, I.base, I.loc, I.cell, I.free, I.freeC, I.pin, I.hok, I.len⟩
theorem SP.unwish {D : Ends} {f : Flow} {s' : Shared} (h : SP (X.wish E) pins D f s') : SP X pins D f s' := by
  cases f with
  | next => obtain ⟨σ', H', I, q⟩ := h; exact ⟨σ', H', I.unwish, q⟩
  | brk => obtain ⟨σ', H', I, q⟩ := h; exact ⟨σ', H', I.unwish, q⟩
  | cont => obtain ⟨σ', H', I, q⟩ := h; exact ⟨σ', H', I.unwish, q⟩
  | ret u => obtain ⟨v, σ', H', I, r, q⟩ := h; exact ⟨v, σ', H', I.unwish, r, q⟩
theorem PE.nox {e : Expr} {t : TE} (h : PE X.nox e t) : PE X e t := fun pins s σ H Q I hw =>
  wpAny_mono (h pins s σ H Q (I.wish _) hw) (fun _ _ ⟨v, H', I', r, q⟩ => ⟨v, H', I'.unwish, r, q⟩) fun _ _ z => False.elim z
theorem PT.nox {e : Expr} {t : TT} (h : PT X.nox e t) : PT X e t := fun pins s σ H Q I hw =>
  wpAny_mono (h pins s σ H Q (I.wish _) hw) (fun _ _ ⟨H', I', q⟩ => ⟨H', I'.unwish, q⟩) fun _ _ z => False.elim z
theorem PSs.nox {st : List Stmt} {t : TS} (h : PSs X.nox st t) : PSs X st t := fun pins s σ H D I hw =>
  wpAny_mono (h pins s σ H D (I.wish _) hw) (fun _ _ q => q.unwish) fun _ _ z => False.elim z
end
section
variable {X : Cx} {st : Stmt} {rest : List Stmt} {t u : TS} {e : Expr} {te : TE} {pos : Pos}
def tNext : TS := fun D σ H => D.nx σ H
def tSeq (t u : TS) : TS := fun D σ H => t { D with nx := u D } σ H
theorem pss_nil : PSs X [] tNext := fun _ _ σ H _ I h => wpAny_execs_nil ⟨σ, H, I, h⟩
theorem pss_cons (h1 : PS X st t) (h2 : PSs X rest u) : PSs X (st :: rest) (tSeq t u) := by
  intro pins s σ H D I h
  refine wpAny_execs_cons (thn (h1 pins s σ H { D with nx := u D } I h) fun f s1 q => ?_)
  cases f with
  | next =>
    obtain ⟨σ', H', I', q⟩ := q
    exact h2 pins s1 σ' H' D I' q
  | ret v => exact q
  | brk => exact q
  | cont => exact q
theorem pss_one (h1 : PS X st t) : PSs X [st] t := by
  intro pins s σ H D I h
  refine wpAny_execs_cons (thn (h1 pins s σ H D I h) fun f s1 q => ?_)
  cases f with
  | next => exact wpAny_execs_nil q
  | ret v => exact q
  | brk => exact q
  | cont => exact q
theorem Inv.quiet {pins : List (Addr × Obj)} {σ : St} {H : Hp} {s : Shared} (I : Inv X pins σ H s) : interactive X.env = false := by simp [interactive, I.ok.kind]
def tDrop (te : TE) : TS := fun D σ H => te σ H fun _ H1 => D.nx σ H1
theorem ps_expr (he : PE X e te) (hs : swapsWith e none pos.line X.env = pure false := by rfl) : PS X (.Expr e pos) (tDrop te) := by
  intro pins s σ H D I h
  exact wpAny_Expr_any (thn (he pins s σ H _ I h) fun v s1 ⟨x, H1, I1, r1, q1⟩ => ⟨σ, H1, I1, q1⟩) I.quiet hs
def tRet (te : TE) : TS := fun D σ H => te σ H D.rt
theorem ps_ret (he : PE X e te) : PS X (.Return (some e) pos) (tRet te) := by
  intro pins s σ H D I h
  exact wpAny_Return_some (thn (he pins s σ H _ I h) fun v s1 ⟨x, H1, I1, r1, q1⟩ => ⟨x, σ, H1, I1, r1, q1⟩)
def tRetN : TS := fun D _ H => D.rt .non H
theorem ps_retN : PS X (.Return none pos) tRetN := fun _ _ σ H _ I h => wpAny_Return_none ⟨.non, σ, H, I, rfl, h⟩
def tIfS (c : TT) (t u : TS) : TS := fun D σ H => c σ H fun b H1 => if b = true then t D σ H1 else u D σ H1
theorem ps_if {c : Expr} {a b : List Stmt} {tc : TT} (hc : PT X c tc) (ha : PSs X a t) (hb : PSs X b u) : PS X (.If c a b pos) (tIfS tc t u) := by
  intro pins s σ H D I h
  refine wpAny_If (thn (hc pins s σ H _ I h) fun d s1 ⟨H1, I1, q1⟩ => ?_)
  cases d with
  | true => exact ha pins s1 σ H1 D I1 q1
  | false => exact hb pins s1 σ H1 D I1 q1
end
abbrev TG := V → St → Hp → (St → Hp → Prop) → Prop
def PG (X : Cx) (target : Expr) (t : TG) : Prop :=
  ∀ (pins : List (Addr × Obj)) (s : Shared) (σ : St) (H : Hp) (v : V) (u : Value) (Q : St → Hp → Prop), Inv X pins σ H s → RelV v u → t v σ H Q →
    wpAny (model X.prog X.w) X.A (assign target X.env u) (fun _ s' => ∃ σ' H', Inv X pins σ' H' s' ∧ Q σ' H') X.xe s
section
variable {X : Cx} {pos : Pos}
def gName (i : Nat) : TG := fun v σ H Q => Q (σ.set i (some v)) H
theorem pg_name {i : Nat} {x : Str} (hN : X.N.Nodup) (hi : X.N[i]? = some x) (hx : Loc X.env.scope x) (hf : X.fn x = true ∨ X.env.scope.names.lookup x = some .local := by first | exact .inl rfl | exact .inr rfl | assumption) : PG X (.Name x pos) (gName i) := by
  intro pins s σ H v u Q I r h
  exact wpAny_assign_Name (store_ok I hN hi hx r (fun s' I' => ⟨_, H, I', h⟩) hf)
def tAsg (te : TE) (g : TG) : TS := fun D σ H => te σ H fun x H1 => g x σ H1 D.nx
theorem ps_set {i : Nat} {x : Str} {e : Expr} {te : TE} {pos' : Pos} (hN : X.N.Nodup) (hi : X.N[i]? = some x) (hx : Loc X.env.scope x) (he : PE X e te) (hs : swapsWith e (some (.Name x pos')) pos.line X.env = pure false := by rfl) (hf : X.fn x = true ∨ X.env.scope.names.lookup x = some .local := by first | exact .inl rfl | exact .inr rfl | assumption) :
    PS X (.Assign [.Name x pos'] e pos) (tAsg te (gName i)) := by
  intro pins s σ H D I h
  refine wpAny_Assign_Name (thn (he pins s σ H _ I h) fun v s1 ⟨y, H1, I1, r1, q1⟩ => ?_) hs
  exact store_ok I1 hN hi hx r1 (fun s2 I2 => ⟨_, H1, I2, q1⟩) hf
end
section
variable {X : Cx} {pos : Pos}
def tWhile (c : TT) (tb : TS) : TS := fun D σ H => ∃ W : Nat → St → Hp → Prop, (∃ m, W m σ H) ∧ ∀ m σ H, W m σ H →
  c σ H fun b H1 => if b = true then ∃ N : St → Hp → Prop, (∀ σ' H', N σ' H' → ∃ m', m' < m ∧ W m' σ' H') ∧ tb { D with nx := N, ct := N, bk := D.nx } σ H1 else D.nx σ H1
theorem ps_while {c : Expr} {body : List Stmt} {tc : TT} {tb : TS} (hp : PassesOwn (model X.prog X.w) X.A X.env X.xe) (hc : PT X c tc) (hb : PSs X body tb) : PS X (.While c body [] pos) (tWhile tc tb) := by
  intro pins s σ H D I h
  obtain ⟨W, ⟨m0, w0⟩, turn⟩ := h
  refine wpAny_While (codeAny_whileLoop (fun n s' => ∃ σ' H', Inv X pins σ' H' s' ∧ W n σ' H') ?_ m0 ⟨σ, H, I, w0⟩)
  rintro n s1 ⟨σ1, H1, I1, w1⟩
  refine wpAny_passesOwn hp (thn (hc pins s1 σ1 H1 _ I1 (turn n σ1 H1 w1)) fun b s2 ⟨H2, I2, q2⟩ => ?_)
  cases b with
  | true =>
    obtain ⟨N, hN, q2⟩ := q2
    rw [if_pos rfl]
    refine wpAny_passesOwn hp (thn (hb pins s2 σ1 H2 _ I2 q2) fun f s3 q3 => ?_)
    cases f with
    | next =>
      obtain ⟨σ3, H3, I3, n3⟩ := q3
      obtain ⟨m', hm, w3⟩ := hN σ3 H3 n3
      exact ⟨m', hm, σ3, H3, I3, w3⟩
    | cont =>
      obtain ⟨σ3, H3, I3, n3⟩ := q3
      obtain ⟨m', hm, w3⟩ := hN σ3 H3 n3
      exact ⟨m', hm, σ3, H3, I3, w3⟩
    | brk => exact q3
    | ret v => exact q3
  | false =>
    rw [if_neg Bool.false_ne_true]
    exact wpAny_execs_nil ⟨σ1, H2, I2, q2⟩
end
structure It where
  go : Nat → Hp → Prop
  yld : Nat → Hp → V → Hp → Prop
  stop : Nat → Hp → Prop
def FpOk (X : Cx) (pins : List (Addr × Obj)) (H : Hp) (b : Addr) : Prop :=
  H b = none ∧ b ≠ X.env.locals ∧ b ∉ X.fs ∧ (b ∈ X.ex ∨ X.s_0.heap.objs.size ≤ b) ∧ (∀ x c, X.env.cells.lookup x = some c → c ≠ b) ∧ ∀ p ∈ X.pn ++ pins, p.1 ≠ b
theorem Inv.fpOk {X : Cx} {pins : List (Addr × Obj)} {σ : St} {H H' : Hp} {s : Shared} {b : Addr} (I : Inv X pins σ H s) (hb : s.heap.objs.size ≤ b) (hn : H' b = none) : FpOk X pins H' b := by
  refine ⟨hn, Nat.ne_of_gt (Nat.lt_of_lt_of_le I.lt hb), I.nofs hb, .inr (Nat.le_trans I.sz hb), fun x c e z => ?_, fun p hp z => ?_⟩
  · obtain ⟨v, q⟩ := I.cell x c e
    exact absurd (Nat.lt_of_lt_of_le q.lt (by rw [z]; exact hb)) (Nat.lt_irrefl _)
  · exact absurd (Nat.lt_of_lt_of_le (Heap.lt_size (I.pin p hp).1) (by rw [z]; exact hb)) (Nat.lt_irrefl _)
structure Turn (P : Program) (w : World) (K : PySem.W.Frag) (tg : Expr) (J : It) (fp : List Addr) (it : Addr) (tn : Nat → Heap → Prop) : Prop where
  mem : it ∈ fp
  obj : ∀ i h, tn i h → ∀ b ∈ fp, ∃ o, h.get? b = some o ∧ ∀ v, o.data ≠ .cell v
  keep : ∀ i h h', tn i h → (∀ b ∈ fp, ∀ o, h.get? b = some o → h'.get? b = some o) → tn i h'
  item : ∀ (X : Cx), X.prog = P → X.w = w → X.K = K → X.calm = true → ∀ (i : Nat) (pins : List (Addr × Obj)) (s : Shared) (σ : St) (H : Hp) (E : Value → Shared → Prop), Inv X pins σ H s → (∀ b ∈ fp, FpOk X pins H b) → tn i s.heap → J.go i H →
    wpAny (model P w) X.A (pyNext (.ref it)) (fun r s1 => ∃ u, r = some u ∧
      wpAny (model P w) X.A (letOwnedTupleGo tg (.ref it) u) (fun _ s2 => ∃ x H', Inv X pins σ H' s2 ∧ RelV x u ∧ J.yld i H x H' ∧ tn (i + 1) s2.heap ∧ ∀ b ∈ fp, H' b = none) E s1) E s
  done : ∀ (X : Cx), X.prog = P → X.w = w → X.K = K → X.calm = true → ∀ (i : Nat) (pins : List (Addr × Obj)) (s : Shared) (σ : St) (H : Hp) (E : Value → Shared → Prop), Inv X pins σ H s → (∀ b ∈ fp, FpOk X pins H b) → tn i s.heap → J.stop i H →
    wpAny (model P w) X.A (pyNext (.ref it)) (fun r s1 => r = none ∧ Inv X pins σ H s1) E s
  self : ∀ (A : Around) (i : Nat) (s : Shared) (Q : Value → Shared → Prop) (E : Value → Shared → Prop), tn i s.heap → Q (.ref it) s → wpAny (model P w) A (pyIter (.ref it)) Q E s
abbrev TI := St → Hp → (It → Hp → Prop) → Prop
def PIE (X : Cx) (pins : List (Addr × Obj)) (σ : St) (tg : Expr) (R : It → Hp → Prop) (itv : Value) (s2 : Shared) : Prop :=
  ∃ (it : Addr) (fp : List Addr) (tn : Nat → Heap → Prop) (J : It) (H' : Hp), itv = .ref it ∧ Inv X pins σ H' s2 ∧ Turn X.prog X.w X.K tg J fp it tn ∧ tn 0 s2.heap ∧ (∀ b ∈ fp, FpOk X pins H' b) ∧ R J H'
def PI (X : Cx) (tg iter : Expr) (wi : TI) : Prop :=
  ∀ (pins : List (Addr × Obj)) (s : Shared) (σ : St) (H : Hp) (R : It → Hp → Prop), Inv X pins σ H s → wi σ H R →
    wpAny (model X.prog X.w) X.A (eval iter X.env) (fun v s1 => wpAny (model X.prog X.w) X.A (pyIter v) (PIE X pins σ tg R) X.xe s1) X.xe s
theorem go_of {M : Model} {A : Around} {E : Value → Shared → Prop} {s : Shared} {tg : Expr} {it : Addr} {u : Value} {o : Obj} {n : String} {vs : Array Value} {Q : Unit → Shared → Prop} (ho : s.heap.get? it = some o) (hc : o.cls = .type n) (hd : o.data = .fields vs)
    (hn : ["enumerate", "zip", "dict_itemiterator", "dict_reverseitemiterator", "odict_iterator", "itertools.zip_longest", "itertools.pairwise"].contains n = false) (hQ : Q () s) : wpAny M A (letOwnedTupleGo tg (.ref it) u) Q E s := by
  unfold letOwnedTupleGo
  cases tg <;> first
    | exact wpAny_pure hQ
    | (cases u <;> first
        | exact wpAny_pure hQ
        | (refine wpAny_bind (wpAny_load ho ?_)
           rw [hc, hd]
           show wpAny M A (if (["enumerate", "zip", "dict_itemiterator", "dict_reverseitemiterator", "odict_iterator", "itertools.zip_longest", "itertools.pairwise"].contains n && vs[0]? == some (rawInt _)) = true then _ else _) Q E s
           rw [if_neg (by intro h; rw [hn, Bool.false_and] at h; cases h)]
           exact wpAny_pure hQ))
def Itl (K : PySem.W.Frag) (a : Addr) : It :=
  ⟨fun i H => ∃ xs x, SqL K H a xs ∧ xs[i]? = some x, fun i H x H' => H' = H ∧ ∀ xs, SqL K H a xs → xs[i]? = some x, fun i H => ∃ xs, SqL K H a xs ∧ xs.length ≤ i⟩
def Itt (K : PySem.W.Frag) (a : Addr) : It :=
  ⟨fun i H => ∃ xs x, SqT K H a xs ∧ xs[i]? = some x, fun i H x H' => H' = H ∧ ∀ xs, SqT K H a xs → xs[i]? = some x, fun i H => ∃ xs, SqT K H a xs ∧ xs.length ≤ i⟩
def Itr (lo : Int) (n : Nat) : It := ⟨fun i _ => i < n, fun i H x H' => H' = H ∧ x = .int (lo + i), fun i _ => n ≤ i⟩
theorem turn_list {P : Program} {w : World} {K : PySem.W.Frag} {tg : Expr} (a it : Addr) : Turn P w K tg (Itl K a) [it] it (fun i h => h.IsListIter it a i) where
  mem := by simp
  obj := fun i h st b hb => by
    have e : b = it := by simpa using hb
    subst e
    obtain ⟨o, e, c, d⟩ := st
    exact ⟨o, e, fun v z => by rw [d] at z; cases z⟩
  keep := fun i h h' st k => st.at fun o e => k it (by simp) o e
  item := by
    intro X hP hw hK hc i pins s σ H E I hf st hg
    subst hP hw hK
    obtain ⟨xs, x, hq, hx⟩ := hg
    obtain ⟨its, rv, p, hz⟩ := I.list hq
    obtain ⟨u, hu, ru⟩ := rv.get hx
    obtain ⟨f0, f1, f2, f3, f4, f5⟩ := hf it (by simp)
    refine wpAny_pyNext_list_item st p.isList (x := u) (by simpa using hu) fun h' st' sb => ?_
    have I1 : Inv X pins σ H { s with heap := h' } := I.turned (t' := s.toks) (fun b o hb e => (sb.2 b hb).trans e) f0 f1 f3 f4 f5
    obtain ⟨o, e, c, d⟩ := id st'
    exact ⟨u, rfl, go_of (s := { s with heap := h' }) e c d (by decide) ⟨x, H, I1, ru, ⟨rfl, fun ys hy => by rw [I.list_inj hy hq]; exact hx⟩, st', fun b hb => (hf b hb).1⟩⟩
  done := by
    intro X hP hw hK hc i pins s σ H E I hf st hg
    subst hP hw hK
    obtain ⟨xs, hq, hx⟩ := hg
    obtain ⟨its, rv, p, hz⟩ := I.list hq
    obtain ⟨f0, f1, f2, f3, f4, f5⟩ := hf it (by simp)
    have hl := rv.length
    exact wpAny_pyNext_list_end (I.ok.hd hc) st p.isList (by simp; omega) fun h' eb => ⟨rfl, I.turned (t' := s.toks) (fun b o hb e => eb b o hb e) f0 f1 f3 f4 f5⟩
  self := fun _ _ _ _ _ st h => wpAny_pyIter_listiter st h
theorem turn_tuple {P : Program} {w : World} {K : PySem.W.Frag} {tg : Expr} (a it : Addr) : Turn P w K tg (Itt K a) [it] it (fun i h => h.IsTupleIter it a i) where
  mem := by simp
  obj := fun i h st b hb => by
    have e : b = it := by simpa using hb
    subst e
    obtain ⟨o, e, c, d⟩ := st
    exact ⟨o, e, fun v z => by rw [d] at z; cases z⟩
  keep := fun i h h' st k => st.at fun o e => k it (by simp) o e
  item := by
    intro X hP hw hK hc i pins s σ H E I hf st hg
    subst hP hw hK
    obtain ⟨xs, x, hq, hx⟩ := hg
    obtain ⟨its, rv, p, hz⟩ := I.tuple hq
    obtain ⟨u, hu, ru⟩ := rv.get hx
    obtain ⟨f0, f1, f2, f3, f4, f5⟩ := hf it (by simp)
    refine wpAny_pyNext_tuple_item st (show s.heap.IsTuple a its.toArray from p) (x := u) (by simpa using hu) fun h' st' sb => ?_
    have I1 : Inv X pins σ H { s with heap := h' } := I.turned (t' := s.toks) (fun b o hb e => (sb.2 b hb).trans e) f0 f1 f3 f4 f5
    obtain ⟨o, e, c, d⟩ := id st'
    exact ⟨u, rfl, go_of (s := { s with heap := h' }) e c d (by decide) ⟨x, H, I1, ru, ⟨rfl, fun ys hy => by rw [I.tuple_inj hy hq]; exact hx⟩, st', fun b hb => (hf b hb).1⟩⟩
  done := by
    intro X hP hw hK hc i pins s σ H E I hf st hg
    subst hP hw hK
    obtain ⟨xs, hq, hx⟩ := hg
    obtain ⟨its, rv, p, hz⟩ := I.tuple hq
    obtain ⟨f0, f1, f2, f3, f4, f5⟩ := hf it (by simp)
    have hl := rv.length
    exact wpAny_pyNext_tuple_end (I.ok.hd hc) st (show s.heap.IsTuple a its.toArray from p) (by simp; omega) fun h' eb => ⟨rfl, I.turned (t' := s.toks) (fun b o hb e => eb b o hb e) f0 f1 f3 f4 f5⟩
  self := fun _ _ _ _ _ st h => wpAny_pyIter_tupleiter st h
theorem turn_range {P : Program} {w : World} {K : PySem.W.Frag} {tg : Expr} (it : Addr) (lo : Int) (n : Nat) : Turn P w K tg (Itr lo n) [it] it (fun i h => IsRangeIter h it (lo + (i : Nat) * 1) ((n : Int) - (i : Nat)) 1) where
  mem := by simp
  obj := fun i h st b hb => by
    have e : b = it := by simpa using hb
    subst e
    exact ⟨_, st, fun v z => by
      have z' : Data.fields _ = Data.cell v := z
      cases z'⟩
  keep := fun i h h' st k => k it (by simp) _ st
  item := by
    intro X hP hw hK hc i pins s σ H E I hf st hg
    subst hP hw hK
    obtain ⟨f0, f1, f2, f3, f4, f5⟩ := hf it (by simp)
    have W := Walks.range (prog := X.prog) (w := X.w) (I.ok.hd hc) it lo 1 n
    refine W.item i s _ _ hg st fun v h' tk hv st' kk => ?_
    obtain ⟨t, rfl⟩ := hv
    have I1 : Inv X pins σ H { s with heap := h', toks := tk } := I.turned (fun b o hb e => kk b o (by simpa using hb) e) f0 f1 f3 f4 f5
    refine ⟨_, rfl, go_of (s := { s with heap := h', toks := tk }) (n := "range_iterator") st' rfl rfl (by decide) ⟨.int (lo + i), H, I1, ⟨t, ?_⟩, ⟨rfl, rfl⟩, st', fun b hb => (hf b hb).1⟩⟩
    rw [Int.mul_one]
  done := by
    intro X hP hw hK hc i pins s σ H E I hf st hg
    subst hP hw hK
    obtain ⟨f0, f1, f2, f3, f4, f5⟩ := hf it (by simp)
    exact wpAny_pyNext_range_end (I.ok.hd hc) st (by have : n ≤ i := hg; omega) fun h' eb => ⟨rfl, I.turned (t' := s.toks) (fun b o hb e => eb b o hb e) f0 f1 f3 f4 f5⟩
  self := fun _ _ _ _ _ st h => wpAny_pyIter_rangeiter st h
end L2
namespace L2
open PySem PySem.Spec PyProof.Rows
section
variable {X : Cx} {tg : Expr}
def iList (K : PySem.W.Frag) (tl : TE) : TI := fun σ H R => tl σ H fun x H1 => ∃ a, x = .ref a ∧ (∃ xs, SqL K H1 a xs) ∧ R (Itl K a) H1
def iTup (K : PySem.W.Frag) (tl : TE) : TI := fun σ H R => tl σ H fun x H1 => ∃ a, x = .ref a ∧ (∃ xs, SqT K H1 a xs) ∧ R (Itt K a) H1
theorem pi_list {l : Expr} {tl : TE} (hl : PE X l tl) : PI X tg l (iList X.K tl) := by
  intro pins s σ H R I h
  refine thn (hl pins s σ H _ I h) fun v s1 ⟨x, H1, I1, r1, q1⟩ => ?_
  obtain ⟨a, e, ⟨xs, hq⟩, q⟩ := q1
  subst e
  cases r1
  obtain ⟨its, rv, p, hz⟩ := I1.list hq
  refine wpAny_pyIter_list p.isList ?_
  refine ⟨s1.heap.objs.size, [s1.heap.objs.size], _, _, H1, rfl, I1.kept (t' := s1.toks) fun b o e => Heap.get?_push_of_some _ e, turn_list a _, ⟨_, Heap.get?_push_size _ rfl, rfl, rfl⟩, fun b hb => ?_, q⟩
  have e : b = s1.heap.objs.size := by simpa using hb
  subst e
  exact I1.fpOk (Nat.le_refl _) (I1.hok.fresh (Nat.le_refl _))
theorem pi_tup {l : Expr} {tl : TE} (hl : PE X l tl) : PI X tg l (iTup X.K tl) := by
  intro pins s σ H R I h
  refine thn (hl pins s σ H _ I h) fun v s1 ⟨x, H1, I1, r1, q1⟩ => ?_
  obtain ⟨a, e, ⟨xs, hq⟩, q⟩ := q1
  subst e
  cases r1
  obtain ⟨its, rv, p, hz⟩ := I1.tuple hq
  refine wpAny_pyIter_tuple (show s1.heap.IsTuple a its.toArray from p) ?_
  refine ⟨s1.heap.objs.size, [s1.heap.objs.size], _, _, H1, rfl, I1.kept (t' := s1.toks) fun b o e => Heap.get?_push_of_some _ e, turn_tuple a _, ⟨_, Heap.get?_push_size _ rfl, rfl, rfl⟩, fun b hb => ?_, q⟩
  have e : b = s1.heap.objs.size := by simpa using hb
  subst e
  exact I1.fpOk (Nat.le_refl _) (I1.hok.fresh (Nat.le_refl _))
theorem range_it {pins : List (Addr × Obj)} {σ : St} {H : Hp} {s : Shared} {R : It → Hp → Prop} {E : Value → Shared → Prop} {lo hi : Int} {t u v : Tok} {tk : Nat} (I : Inv X pins σ H s) (h1 : -(2 ^ 62) ≤ lo) (h2 : lo < 2 ^ 62) (h3 : -(2 ^ 62) ≤ hi) (h4 : hi < 2 ^ 62)
    (q : R (Itr lo (hi - lo).toNat) H) : wpAny (model X.prog X.w) X.A (pyIter (.ref s.heap.objs.size)) (PIE X pins σ tg R) E { s with heap := s.heap.push { cls := .type "range", data := .fields #[.int lo t, .int hi u, .int 1 v] }, toks := tk } := by
  refine wpAny_pyIter_range (IsRange.new ..) (small_one h1 h2 h3 h4) ?_
  have I1 : Inv X pins σ H { s with heap := s.heap.push { cls := .type "range", data := .fields #[.int lo t, .int hi u, .int 1 v] }, toks := tk } := I.kept fun b o e => Heap.get?_push_of_some _ e
  refine ⟨(s.heap.push { cls := .type "range", data := .fields #[.int lo t, .int hi u, .int 1 v] }).objs.size, [(s.heap.push { cls := .type "range", data := .fields #[.int lo t, .int hi u, .int 1 v] }).objs.size], _, _, H, rfl,
    I1.kept (t' := tk) fun b o e => Heap.get?_push_of_some _ e, turn_range _ lo (hi - lo).toNat, ?_, fun b hb => ?_, q⟩
  · have e1 : lo + ((0 : Nat) : Int) * 1 = lo := by simp
    have e2 : (((hi - lo).toNat : Nat) : Int) - ((0 : Nat) : Int) = Builtin.Range.rangeSize lo hi 1 := by rw [rangeSize_one]; split <;> omega
    show IsRangeIter _ _ (lo + ((0 : Nat) : Int) * 1) ((((hi - lo).toNat : Nat) : Int) - ((0 : Nat) : Int)) 1
    rw [e1, e2]
    exact Heap.get?_push_size _ rfl
  · have e : b = (s.heap.push { cls := .type "range", data := .fields #[.int lo t, .int hi u, .int 1 v] }).objs.size := by simpa using hb
    subst e
    exact I1.fpOk (Nat.le_refl _) (I1.hok.fresh (Nat.le_refl _))
def iRng2 (ta : TA) : TI := fun σ H R => ta σ H fun vs H1 => ∃ i j : Int, vs = [.int i, .int j] ∧ (-(2 ^ 62) ≤ i ∧ i < 2 ^ 62 ∧ -(2 ^ 62) ≤ j ∧ j < 2 ^ 62) ∧ R (Itr i (j - i).toNat) H1
theorem pi_range2 {a b : Expr} {ta : TA} {p pos : Pos} (hg : Gl X "range") (hm : X.mg "range" = none) (ha : PA X [a, b] ta) (hs : starEach [a, b] X.env = [(false, eval a X.env), (false, eval b X.env)] := by rfl) (hs2 : starEach [b] X.env = [(false, eval b X.env)] := by rfl) :
    PI X tg (.Call (.Name "range" p) [a, b] [] pos) (iRng2 ta) := by
  intro pins s σ H R I h
  refine Call_ (ld_blt I hg hm boot_range (PyProof.Rows.callWith_type1 (thn (ha pos pins s σ H _ I h) fun us s1 ⟨vs, H1, I1, r1, q1⟩ => ?_) (by rw [hs, hs2]) (by rw [hs2]; rfl)))
  obtain ⟨i, j, e, ⟨q1, q2, q3, q4⟩, q⟩ := q1
  subst e
  cases r1 with
  | cons r rr =>
    cases rr with
    | cons r' rr =>
      cases rr
      obtain ⟨t, rfl⟩ := r
      obtain ⟨t', rfl⟩ := r'
      exact call_range_2 (range_it I1 q1 q2 q3 q4 q)
def tFor (wi : TI) (g : TG) (tb : TS) : TS := fun D σ H => wi σ H fun J H1 => ∃ W : Nat → Nat → St → Hp → Prop, (∃ m, W 0 m σ H1) ∧ ∀ i m σ H, W i m σ H →
  (J.stop i H ∧ D.nx σ H) ∨ (J.go i H ∧ ∃ N : St → Hp → Prop, (∀ σ' H', N σ' H' → ∃ m', m' < m ∧ W (i + 1) m' σ' H') ∧ ∀ x H', J.yld i H x H' → g x σ H' fun σ2 H2 => tb { D with nx := N, ct := N, bk := D.nx } σ2 H2)
def pinsAt (fp : List Addr) (h : Heap) : List (Addr × Obj) := fp.filterMap fun b => (h.get? b).map fun o => (b, o)
theorem mem_pinsAt {fp : List Addr} {h : Heap} {b : Addr} {o : Obj} (hb : b ∈ fp) (e : h.get? b = some o) : (b, o) ∈ pinsAt fp h := List.mem_filterMap.mpr ⟨b, hb, by rw [e]; rfl⟩
theorem of_pinsAt {fp : List Addr} {h : Heap} {p : Addr × Obj} (hp : p ∈ pinsAt fp h) : p.1 ∈ fp ∧ h.get? p.1 = some p.2 := by
  obtain ⟨b, hb, e⟩ := List.mem_filterMap.mp hp
  cases q : h.get? b with
  | none => rw [q] at e; cases e
  | some o =>
    rw [q] at e
    have e' : (b, o) = p := Option.some.inj e
    subst e'
    exact ⟨hb, q⟩
theorem Inv.pinned {pins : List (Addr × Obj)} {σ : St} {H : Hp} {s : Shared} {fp : List Addr} (I : Inv X pins σ H s) (hf : ∀ b ∈ fp, FpOk X pins H b) (ho : ∀ b ∈ fp, ∃ o, s.heap.get? b = some o ∧ ∀ v, o.data ≠ .cell v) : Inv X (pins ++ pinsAt fp s.heap) σ H s :=
  I.pins_of fun p hp => (List.mem_append.mp hp).elim (fun z => I.pin p (List.mem_append_right _ z)) fun z => by
    obtain ⟨hb, e⟩ := of_pinsAt z
    obtain ⟨f0, f1, f2, _⟩ := hf p.1 hb
    obtain ⟨o, e', d⟩ := ho p.1 hb
    rw [e] at e'; cases e'
    exact ⟨e, f0, f1, f2, d⟩
theorem Inv.unpinned {pins pl : List (Addr × Obj)} {σ : St} {H : Hp} {s : Shared} (I : Inv X (pins ++ pl) σ H s) : Inv X pins σ H s := I.pins_of fun p hp => I.pin p (List.mem_append_right _ (List.mem_append_left _ hp))
theorem ps_for {iter : Expr} {body : List Stmt} {wi : TI} {g : TG} {tb : TS} {pos : Pos} (hp : PassesOwn (model X.prog X.w) X.A X.env X.xe) (hc : X.calm = true) (hi : PI X tg iter wi) (hg : PG X tg g) (hb : PSs X body tb)
    (hs : ∀ x, foldedSetIterable iter X.env x = pure x := by intro _; rfl) : PS X (.For tg iter body [] pos) (tFor wi g tb) := by
  intro pins s σ H D I h
  refine wpAny_For (thn (hi pins s σ H _ I h) fun v s1 h1 => thn h1 fun itv s2 h2 => ?_) hs
  obtain ⟨it, fp, tn, J, H2, e, I2, T, st2, f2, W, ⟨m0, w0⟩, turn⟩ := h2
  subst e
  -- what stays true of the iterator's objects through the loop
  have stat : ∀ {H' : Hp}, (∀ b ∈ fp, H' b = none) → ∀ b ∈ fp, FpOk X pins H' b := fun hn b hb => ⟨hn b hb, (f2 b hb).2⟩
  refine codeAny_forLoop_any (fun n s' => ∃ i σ' H', Inv X pins σ' H' s' ∧ tn i s'.heap ∧ (∀ b ∈ fp, H' b = none) ∧ W i n σ' H') ?_ m0 ⟨0, σ, H2, I2, st2, fun b hb => (f2 b hb).1, w0⟩
  rintro n s3 ⟨i, σ3, H3, I3, st3, fr3, w3⟩
  rcases turn i n σ3 H3 w3 with ⟨stop, qn⟩ | ⟨go, N, hN, step⟩
  · refine wpAny_passesOwn hp (thn (T.done X rfl rfl rfl hc i pins s3 σ3 H3 X.xe I3 (stat fr3) st3 stop) fun r s4 ⟨hr, I4⟩ => ?_)
    subst hr
    exact wpAny_execs_nil ⟨σ3, H3, I4, qn⟩
  · refine wpAny_passesOwn hp (thn (T.item X rfl rfl rfl hc i pins s3 σ3 H3 X.xe I3 (stat fr3) st3 go) fun r s4 ⟨u, hr, h4⟩ => ?_)
    subst hr
    refine wpAny_passesOwn hp (thn h4 fun _ s5 ⟨x, H5, I5, r5, y5, st5, fr5⟩ => ?_)
    have I5' := I5.pinned (stat fr5) (T.obj _ _ st5)
    refine wpAny_passesOwn hp (thn (hg _ s5 σ3 H5 x u _ I5' r5 (step x H5 y5)) fun _ s6 ⟨σ6, H6, I6, q6⟩ => ?_)
    refine wpAny_passesOwn hp (thn (hb _ s6 σ6 H6 _ I6 q6) fun f s7 q7 => ?_)
    have again : ∀ {σ7 : St} {H7 : Hp}, Inv X (pins ++ pinsAt fp s5.heap) σ7 H7 s7 → N σ7 H7 → ∃ m, m < n ∧ ∃ i σ' H', Inv X pins σ' H' s7 ∧ tn i s7.heap ∧ (∀ b ∈ fp, H' b = none) ∧ W i m σ' H' := fun {σ7 H7} I7 n7 => by
      obtain ⟨m', hm, w7⟩ := hN σ7 H7 n7
      refine ⟨m', hm, i + 1, σ7, H7, I7.unpinned, T.keep _ _ _ st5 fun b hb o e => (I7.pin (b, o) (List.mem_append_right _ (List.mem_append_right _ (mem_pinsAt hb e)))).1, fun b hb => ?_, w7⟩
      obtain ⟨o, e, d⟩ := T.obj _ _ st5 b hb
      exact (I7.pin (b, o) (List.mem_append_right _ (List.mem_append_right _ (mem_pinsAt hb e)))).2.1
    cases f with
    | next => obtain ⟨σ7, H7, I7, n7⟩ := q7; exact again I7 n7
    | cont => obtain ⟨σ7, H7, I7, n7⟩ := q7; exact again I7 n7
    | brk => obtain ⟨σ7, H7, I7, q7⟩ := q7; exact ⟨σ7, H7, I7.unpinned, q7⟩
    | ret v => obtain ⟨x7, σ7, H7, I7, r7, q7⟩ := q7; exact ⟨x7, σ7, H7, I7.unpinned, r7, q7⟩
end
theorem for_list {K : PySem.W.Frag} {a : Addr} {xs : List V} {g : TG} {tb : TS} {D : Ends} {σ : St} {H : Hp} (Pv : Nat → St → Hp → Prop) (h0 : Pv 0 σ H) (hl : ∀ i σ H, i ≤ xs.length → Pv i σ H → SqL K H a xs)
    (hs : ∀ i x σ H, xs[i]? = some x → Pv i σ H → g x σ H fun σ2 H2 => tb { D with nx := Pv (i + 1), ct := Pv (i + 1), bk := D.nx } σ2 H2) (hd : ∀ σ H, Pv xs.length σ H → D.nx σ H) :
    ∃ W : Nat → Nat → St → Hp → Prop, (∃ m, W 0 m σ H) ∧ ∀ i m σ H, W i m σ H →
      ((Itl K a).stop i H ∧ D.nx σ H) ∨ ((Itl K a).go i H ∧ ∃ N : St → Hp → Prop, (∀ σ' H', N σ' H' → ∃ m', m' < m ∧ W (i + 1) m' σ' H') ∧ ∀ x H', (Itl K a).yld i H x H' → g x σ H' fun σ2 H2 => tb { D with nx := N, ct := N, bk := D.nx } σ2 H2) := by
  refine ⟨fun i m σ H => m = xs.length - i ∧ i ≤ xs.length ∧ Pv i σ H, ⟨xs.length, by simp, Nat.zero_le _, h0⟩, ?_⟩
  rintro i m σ H ⟨rfl, hi, p⟩
  have q := hl i σ H hi p
  by_cases hlt : i < xs.length
  · refine .inr ⟨⟨xs, xs[i], q, by simp [hlt]⟩, Pv (i + 1), fun σ' H' p' => ⟨xs.length - (i + 1), by omega, rfl, hlt, p'⟩, fun x H' y => ?_⟩
    obtain ⟨e, y⟩ := y
    subst e
    exact hs i x σ _ (y xs q) p
  · have e : i = xs.length := by omega
    subst e
    exact .inl ⟨⟨xs, q, Nat.le_refl _⟩, hd σ H p⟩
theorem for_tup {K : PySem.W.Frag} {a : Addr} {xs : List V} {g : TG} {tb : TS} {D : Ends} {σ : St} {H : Hp} (Pv : Nat → St → Hp → Prop) (h0 : Pv 0 σ H) (hl : ∀ i σ H, i ≤ xs.length → Pv i σ H → SqT K H a xs)
    (hs : ∀ i x σ H, xs[i]? = some x → Pv i σ H → g x σ H fun σ2 H2 => tb { D with nx := Pv (i + 1), ct := Pv (i + 1), bk := D.nx } σ2 H2) (hd : ∀ σ H, Pv xs.length σ H → D.nx σ H) :
    ∃ W : Nat → Nat → St → Hp → Prop, (∃ m, W 0 m σ H) ∧ ∀ i m σ H, W i m σ H →
      ((Itt K a).stop i H ∧ D.nx σ H) ∨ ((Itt K a).go i H ∧ ∃ N : St → Hp → Prop, (∀ σ' H', N σ' H' → ∃ m', m' < m ∧ W (i + 1) m' σ' H') ∧ ∀ x H', (Itt K a).yld i H x H' → g x σ H' fun σ2 H2 => tb { D with nx := N, ct := N, bk := D.nx } σ2 H2) := by
  refine ⟨fun i m σ H => m = xs.length - i ∧ i ≤ xs.length ∧ Pv i σ H, ⟨xs.length, by simp, Nat.zero_le _, h0⟩, ?_⟩
  rintro i m σ H ⟨rfl, hi, p⟩
  have q := hl i σ H hi p
  by_cases hlt : i < xs.length
  · refine .inr ⟨⟨xs, xs[i], q, by simp [hlt]⟩, Pv (i + 1), fun σ' H' p' => ⟨xs.length - (i + 1), by omega, rfl, hlt, p'⟩, fun x H' y => ?_⟩
    obtain ⟨e, y⟩ := y
    subst e
    exact hs i x σ _ (y xs q) p
  · have e : i = xs.length := by omega
    subst e
    exact .inl ⟨⟨xs, q, Nat.le_refl _⟩, hd σ H p⟩
theorem for_range {lo : Int} {n : Nat} {g : TG} {tb : TS} {D : Ends} {σ : St} {H : Hp} (Pv : Nat → St → Hp → Prop) (h0 : Pv 0 σ H)
    (hs : ∀ i σ H, i < n → Pv i σ H → g (.int (lo + i)) σ H fun σ2 H2 => tb { D with nx := Pv (i + 1), ct := Pv (i + 1), bk := D.nx } σ2 H2) (hd : ∀ σ H, Pv n σ H → D.nx σ H) :
    ∃ W : Nat → Nat → St → Hp → Prop, (∃ m, W 0 m σ H) ∧ ∀ i m σ H, W i m σ H →
      ((Itr lo n).stop i H ∧ D.nx σ H) ∨ ((Itr lo n).go i H ∧ ∃ N : St → Hp → Prop, (∀ σ' H', N σ' H' → ∃ m', m' < m ∧ W (i + 1) m' σ' H') ∧ ∀ x H', (Itr lo n).yld i H x H' → g x σ H' fun σ2 H2 => tb { D with nx := N, ct := N, bk := D.nx } σ2 H2) := by
  refine ⟨fun i m σ H => m = n - i ∧ i ≤ n ∧ Pv i σ H, ⟨n, by simp, Nat.zero_le _, h0⟩, ?_⟩
  rintro i m σ H ⟨rfl, hi, p⟩
  by_cases hlt : i < n
  · refine .inr ⟨hlt, Pv (i + 1), fun σ' H' p' => ⟨n - (i + 1), by omega, rfl, hlt, p'⟩, fun x H' y => ?_⟩
    obtain ⟨e, y⟩ := y
    subst e y
    exact hs i σ _ hlt p
  · have e : i = n := by omega
    subst e
    exact .inl ⟨Nat.le_refl _, hd σ H p⟩
theorem while_by {c : TT} {tb : TS} {D : Ends} {σ : St} {H : Hp} (Pv : St → Hp → Prop) (μ : St → Hp → Nat) (h0 : Pv σ H)
    (hs : ∀ σ H, Pv σ H → c σ H fun b H1 => if b = true then tb { D with nx := fun σ' H' => Pv σ' H' ∧ μ σ' H' < μ σ H, ct := fun σ' H' => Pv σ' H' ∧ μ σ' H' < μ σ H, bk := D.nx } σ H1 else D.nx σ H1)
    (mono : ∀ σ H Q Q', (∀ b H1, Q b H1 → Q' b H1) → c σ H Q → c σ H Q') : tWhile c tb D σ H := by
  refine ⟨fun m σ H => m = μ σ H ∧ Pv σ H, ⟨_, rfl, h0⟩, ?_⟩
  rintro m σ H ⟨rfl, p⟩
  refine mono σ H _ _ (fun b H1 q => ?_) (hs σ H p)
  cases b with
  | true => exact ⟨_, fun σ' H' ⟨p', l⟩ => ⟨_, l, rfl, p'⟩, q⟩
  | false => exact q
end L2
namespace L2
open PySem PySem.Spec PyProof.Rows
abbrev R2 := V → V → Hp → VK → Prop
def OpR (X : Cx) (f : Value → Value → Sem Value) (r : R2) : Prop :=
  ∀ (pins : List (Addr × Obj)) (s : Shared) (σ : St) (H : Hp) (x y : V) (v u : Value) (Q : VK), Inv X pins σ H s → RelV x v → RelV y u → r x y H Q →
    wpAny (model X.prog X.w) X.A (f v u) (EP X pins σ Q) X.xe s
def UnR (X : Cx) (f : Value → Sem Value) (r : V → Hp → VK → Prop) : Prop :=
  ∀ (pins : List (Addr × Obj)) (s : Shared) (σ : St) (H : Hp) (x : V) (v : Value) (Q : VK), Inv X pins σ H s → RelV x v → r x H Q →
    wpAny (model X.prog X.w) X.A (f v) (EP X pins σ Q) X.xe s
def CallR (X : Cx) (f : Value) (r : List V → Hp → VK → Prop) : Prop :=
  ∀ (pins : List (Addr × Obj)) (s : Shared) (σ : St) (H : Hp) (xs : List V) (us : List Value) (Q : VK), Inv X pins σ H s → Vals xs us → r xs H Q →
    wpAny (model X.prog X.w) X.A (call f us) (EP X pins σ Q) X.xe s
def tOp (r : R2) (ta tb : TE) : TE := fun σ H Q => ta σ H fun x H1 => tb σ H1 fun y H2 => r x y H2 Q
def tUn (r : V → Hp → VK → Prop) (ta : TE) : TE := fun σ H Q => ta σ H fun x H1 => r x H1 Q
def rI (C : Int → Int → Prop) (g : Int → Int → V) : R2 := fun x y H Q => ∃ i j, x = .int i ∧ y = .int j ∧ C i j ∧ Q (g i j) H
def rI0 (g : Int → Int → V) : R2 := fun x y H Q => ∃ i j, x = .int i ∧ y = .int j ∧ Q (g i j) H
def rU (g : Int → V) : V → Hp → VK → Prop := fun x H Q => ∃ i, x = .int i ∧ Q (g i) H
section
variable {X : Cx} {a b c : Expr} {ta tb tc : TE} {pos : Pos}
theorem binT (ha : PE X a ta) (hb : PE X b tb) {pins : List (Addr × Obj)} {s : Shared} {σ : St} {H : Hp} {R : V → V → Hp → Prop} (I : Inv X pins σ H s)
    (h : ta σ H fun x H1 => tb σ H1 fun y H2 => R x y H2) {Q : Value → Shared → Prop} {f : Value → Value → Sem Value}
    (hf : ∀ v u s2 x y H2, Inv X pins σ H2 s2 → RelV x v → RelV y u → R x y H2 → wpAny (model X.prog X.w) X.A (f v u) Q X.xe s2) :
    wpAny (model X.prog X.w) X.A (eval a X.env) (fun v s₁ => wpAny (model X.prog X.w) X.A (eval b X.env) (fun u s₂ => wpAny (model X.prog X.w) X.A (f v u) Q X.xe s₂) X.xe s₁) X.xe s := by
  refine thn (ha pins s σ H _ I h) fun v s1 ⟨x, H1, I1, r1, q1⟩ => ?_
  refine thn (hb pins s1 σ H1 _ I1 q1) fun u s2 ⟨y, H2, I2, r2, q2⟩ => ?_
  exact hf v u s2 x y H2 I2 r1 r2 q2
theorem pe_op {op : Operator} {r : R2} (ho : OpR X (binaryOp op) r) (ha : PE X a ta) (hb : PE X b tb) : PE X (.BinOp a op b pos) (tOp r ta tb) := by
  intro pins s σ H Q I h
  exact wpAny_BinOp (binT ha hb I h fun v u s2 x y H2 I2 rx ry q => ho pins s2 σ H2 x y v u Q I2 rx ry q)
theorem pe_un {op : UnaryOp} {r : V → Hp → VK → Prop} (ho : UnR X (unaryOp op) r) (ha : PE X a ta) : PE X (.UnaryOp op a pos) (tUn r ta) := by
  intro pins s σ H Q I h
  exact UnaryOp_ (thn (ha pins s σ H _ I h) fun v s1 ⟨x, H1, I1, r1, q1⟩ => ho pins s1 σ H1 x v Q I1 r1 q1)
theorem opI {f : Value → Value → Sem Value} {C : Int → Int → Prop} {g : Int → Int → Int}
    (rule : ∀ (i j : Int) (t u : Tok) (s : Shared) (Q : Value → Shared → Prop) (E : Value → Shared → Prop), C i j → Q (.int (g i j) s.toks) { s with toks := s.toks + 1 } → wpAny (model X.prog X.w) X.A (f (.int i t) (.int j u)) Q E s) :
    OpR X f (rI C fun i j => .int (g i j)) := by
  intro pins s σ H x y v u Q I rx ry h
  obtain ⟨i, j, rfl, rfl, hc, q⟩ := h
  obtain ⟨t, rfl⟩ := rx
  obtain ⟨t', rfl⟩ := ry
  exact rule i j t t' s _ _ hc ⟨.int (g i j), H, I.tok _, ⟨_, rfl⟩, q⟩
theorem opI0 {f : Value → Value → Sem Value} {g : Int → Int → Int}
    (rule : ∀ (i j : Int) (t u : Tok) (s : Shared) (Q : Value → Shared → Prop) (E : Value → Shared → Prop), Q (.int (g i j) s.toks) { s with toks := s.toks + 1 } → wpAny (model X.prog X.w) X.A (f (.int i t) (.int j u)) Q E s) :
    OpR X f (rI0 fun i j => .int (g i j)) := by
  intro pins s σ H x y v u Q I rx ry h
  obtain ⟨i, j, rfl, rfl, q⟩ := h
  obtain ⟨t, rfl⟩ := rx
  obtain ⟨t', rfl⟩ := ry
  exact rule i j t t' s _ _ ⟨.int (g i j), H, I.tok _, ⟨_, rfl⟩, q⟩
theorem opB0 {f : Value → Value → Sem Value} {g : Int → Int → Bool}
    (rule : ∀ (i j : Int) (t u : Tok) (s : Shared) (Q : Value → Shared → Prop) (E : Value → Shared → Prop), Q (.bool (g i j)) s → wpAny (model X.prog X.w) X.A (f (.int i t) (.int j u)) Q E s) :
    OpR X f (rI0 fun i j => .bl (g i j)) := by
  intro pins s σ H x y v u Q I rx ry h
  obtain ⟨i, j, rfl, rfl, q⟩ := h
  obtain ⟨t, rfl⟩ := rx
  obtain ⟨t', rfl⟩ := ry
  exact rule i j t t' s _ _ ⟨.bl (g i j), H, I, rfl, q⟩
def CMul (i j : Int) : Prop := (-(2 ^ 64) < i ∧ i < 2 ^ 64) ∨ (-(2 ^ 64) < j ∧ j < 2 ^ 64)
theorem CMul.ok {i j : Int} (h : CMul i j) : IntMulOk i j := by
  rcases h with ⟨h1, h2⟩ | ⟨h1, h2⟩
  · exact .of_left (intBits_le_64 h1 h2)
  · exact .of_right (intBits_le_64 h1 h2)
theorem op_add : OpR X (binaryOp .Add) (rI0 fun i j => .int (i + j)) := opI0 fun _ _ _ _ _ _ _ q => add_int q
theorem op_sub : OpR X (binaryOp .Sub) (rI0 fun i j => .int (i - j)) := opI0 fun _ _ _ _ _ _ _ q => sub_int q
theorem op_mod : OpR X (binaryOp .Mod) (rI (fun _ j => 0 < j) fun i j => .int (i % j)) := opI fun i j _ _ _ _ _ hc q => by
  have h1 : (0 : Int) < j := hc
  exact mod_int' (by omega) (by rw [Int.fmod_eq_emod_of_nonneg i (by omega)]; exact q)
theorem unI {f : Value → Sem Value} {g : Int → Int}
    (rule : ∀ (i : Int) (t : Tok) (s : Shared) (Q : Value → Shared → Prop) (E : Value → Shared → Prop), Q (.int (g i) s.toks) { s with toks := s.toks + 1 } → wpAny (model X.prog X.w) X.A (f (.int i t)) Q E s) :
    UnR X f (rU fun i => .int (g i)) := by
  intro pins s σ H x v Q I rx h
  obtain ⟨i, rfl, q⟩ := h
  obtain ⟨t, rfl⟩ := rx
  exact rule i t s _ _ ⟨.int (g i), H, I.tok _, ⟨_, rfl⟩, q⟩
theorem un_neg : UnR X (unaryOp .USub) (rU fun i => .int (-i)) := unI fun _ _ _ _ _ q => neg_int q
end
def scal : V → V → Bool
  | .non, .non => true | .non, .int _ => true | .int _, .non => true | .non, .bl _ => true | .bl _, .non => true | .non, .str _ => true | .str _, .non => true
  | .int _, .int _ => true | .bl _, .bl _ => true | .str _, .str _ => true | .byt _, .byt _ => true
  | .int _, .str _ => true | .str _, .int _ => true | .bl _, .str _ => true | .str _, .bl _ => true
  | _, _ => false
def rEq : R2 := fun x y H Q => scal x y = true ∧ Q (.bl (decide (x = y))) H
def rNe : R2 := fun x y H Q => scal x y = true ∧ Q (.bl (!decide (x = y))) H
theorem dec_int {i j : Int} : decide (V.int i = V.int j) = (i == j) := by
  rw [Bool.eq_iff_iff]
  simp
theorem dec_bl {i j : Bool} : decide (V.bl i = V.bl j) = (i == j) := by
  rw [Bool.eq_iff_iff]
  simp
theorem dec_str {i j : Str} : decide (V.str i = V.str j) = (i == j) := by
  rw [Bool.eq_iff_iff]
  simp
theorem dec_byt {i j : Array UInt8} : decide (V.byt i = V.byt j) = (i.toList == j.toList) := by
  rw [Bool.eq_iff_iff]
  cases i
  cases j
  simp
section
variable {X : Cx} {a b c : Expr} {ta tb tc : TE} {pos : Pos}
theorem fin_bl {pins : List (Addr × Obj)} {σ : St} {H : Hp} {s : Shared} {Q : VK} {k k' : Bool} (I : Inv X pins σ H s) (q : Q (.bl k) H) (e : k = k') : EP X pins σ Q (.bool k') s := by
  subst e
  exact ⟨.bl k, H, I, rfl, q⟩
theorem op_eq : OpR X (compareOp .Eq) rEq := by
  intro pins s σ H x y v u Q I rx ry h
  obtain ⟨hs, q⟩ := h
  cases x with
  | non =>
    cases rx
    cases y with
    | non => cases ry; exact PySem.EqNone.eq_none_none (fin_bl I q (by simp))
    | bl j => cases ry; exact PySem.EqNone.eq_none_bool (fin_bl I q (by simp))
    | int j => obtain ⟨t', rfl⟩ := ry; exact PySem.EqNone.eq_none_int (fin_bl I q (by simp))
    | str j => obtain ⟨t', rfl⟩ := ry; exact PySem.EqNone.eq_none_str (fin_bl I q (by simp))
    | _ => exact absurd (show false = true from hs) Bool.false_ne_true
  | bl i =>
    cases rx
    cases y with
    | non => cases ry; exact PySem.EqNone.eq_bool_none (fin_bl I q (by simp))
    | bl j => cases ry; exact eq_bool (fin_bl I q dec_bl)
    | str j => obtain ⟨t', rfl⟩ := ry; exact PySem.EqMixed.eq_bool_str (fin_bl I q (by simp))
    | _ => exact absurd (show false = true from hs) Bool.false_ne_true
  | int i =>
    obtain ⟨t, rfl⟩ := rx
    cases y with
    | non => cases ry; exact PySem.EqNone.eq_int_none (fin_bl I q (by simp))
    | int j => obtain ⟨t', rfl⟩ := ry; exact eq_int (fin_bl I q dec_int)
    | str j => obtain ⟨t', rfl⟩ := ry; exact PySem.EqMixed.eq_int_str (fin_bl I q (by simp))
    | _ => exact absurd (show false = true from hs) Bool.false_ne_true
  | str i =>
    obtain ⟨t, rfl⟩ := rx
    cases y with
    | non => cases ry; exact PySem.EqNone.eq_str_none (fin_bl I q (by simp))
    | bl j => cases ry; exact PySem.EqMixed.eq_str_bool (fin_bl I q (by simp))
    | int j => obtain ⟨t', rfl⟩ := ry; exact PySem.EqMixed.eq_str_int (fin_bl I q (by simp))
    | str j => obtain ⟨t', rfl⟩ := ry; exact eq_str (fin_bl I q dec_str)
    | _ => exact absurd (show false = true from hs) Bool.false_ne_true
  | byt i =>
    obtain ⟨t, rfl⟩ := rx
    cases y with
    | byt j => obtain ⟨t', rfl⟩ := ry; exact PySem.W.eq_bytes (fin_bl I q dec_byt)
    | _ => exact absurd (show false = true from hs) Bool.false_ne_true
  | _ => cases y <;> exact absurd (show false = true from hs) Bool.false_ne_true
theorem op_ne : OpR X (compareOp .NotEq) rNe := by
  intro pins s σ H x y v u Q I rx ry h
  obtain ⟨hs, q⟩ := h
  cases x with
  | non =>
    cases rx
    cases y with
    | non => cases ry; exact PySem.EqNone.ne_none_none (fin_bl I q (by simp))
    | bl j => cases ry; exact PySem.EqNone.ne_none_bool (fin_bl I q (by simp))
    | int j => obtain ⟨t', rfl⟩ := ry; exact PySem.EqNone.ne_none_int (fin_bl I q (by simp))
    | str j => obtain ⟨t', rfl⟩ := ry; exact PySem.EqNone.ne_none_str (fin_bl I q (by simp))
    | _ => exact absurd (show false = true from hs) Bool.false_ne_true
  | bl i =>
    cases rx
    cases y with
    | non => cases ry; exact PySem.EqNone.ne_bool_none (fin_bl I q (by simp))
    | bl j => cases ry; exact ne_bool (fin_bl I q (congrArg not dec_bl))
    | str j => obtain ⟨t', rfl⟩ := ry; exact PySem.EqMixed.ne_bool_str (fin_bl I q (by simp))
    | _ => exact absurd (show false = true from hs) Bool.false_ne_true
  | int i =>
    obtain ⟨t, rfl⟩ := rx
    cases y with
    | non => cases ry; exact PySem.EqNone.ne_int_none (fin_bl I q (by simp))
    | int j => obtain ⟨t', rfl⟩ := ry; exact ne_int (fin_bl I q (congrArg not dec_int))
    | str j => obtain ⟨t', rfl⟩ := ry; exact PySem.EqMixed.ne_int_str (fin_bl I q (by simp))
    | _ => exact absurd (show false = true from hs) Bool.false_ne_true
  | str i =>
    obtain ⟨t, rfl⟩ := rx
    cases y with
    | non => cases ry; exact PySem.EqNone.ne_str_none (fin_bl I q (by simp))
    | bl j => cases ry; exact PySem.EqMixed.ne_str_bool (fin_bl I q (by simp))
    | int j => obtain ⟨t', rfl⟩ := ry; exact PySem.EqMixed.ne_str_int (fin_bl I q (by simp))
    | str j => obtain ⟨t', rfl⟩ := ry; exact ne_str (fin_bl I q (congrArg not dec_str))
    | _ => exact absurd (show false = true from hs) Bool.false_ne_true
  | byt i =>
    obtain ⟨t, rfl⟩ := rx
    cases y with
    | byt j => obtain ⟨t', rfl⟩ := ry; exact PySem.W.ne_bytes (fin_bl I q (congrArg not dec_byt))
    | _ => exact absurd (show false = true from hs) Bool.false_ne_true
  | _ => cases y <;> exact absurd (show false = true from hs) Bool.false_ne_true
theorem op_lt : OpR X (compareOp .Lt) (rI0 fun i j => .bl (decide (i < j))) := opB0 fun _ _ _ _ _ _ _ q => lt_int q
theorem op_le : OpR X (compareOp .LtE) (rI0 fun i j => .bl (decide (i ≤ j))) := opB0 fun _ _ _ _ _ _ _ q => le_int q
theorem op_gt : OpR X (compareOp .Gt) (rI0 fun i j => .bl (decide (j < i))) := opB0 fun _ _ _ _ _ _ _ q => gt_int q
theorem op_ge : OpR X (compareOp .GtE) (rI0 fun i j => .bl (decide (j ≤ i))) := opB0 fun _ _ _ _ _ _ _ q => ge_int q
theorem op_isN : OpR X (compareOp .Is) (fun x y H Q => y = .non ∧ Q (.bl (decide (x = .non))) H) := by
  intro pins s σ H x y v u Q I rx ry h
  obtain ⟨rfl, q⟩ := h
  cases ry
  refine is_none_gen (fin_bl I q ?_)
  cases x <;> first
    | (cases rx; rfl)
    | (obtain ⟨t, rfl⟩ := rx; rfl)
theorem op_notN : OpR X (compareOp .IsNot) (fun x y H Q => y = .non ∧ Q (.bl (!decide (x = .non))) H) := by
  intro pins s σ H x y v u Q I rx ry h
  obtain ⟨rfl, q⟩ := h
  cases ry
  refine isnot_none_gen (fin_bl I q ?_)
  cases x <;> first
    | (cases rx; rfl)
    | (obtain ⟨t, rfl⟩ := rx; rfl)
theorem nomark (b : Expr) {op : CmpOp} (h : op ≠ .In := by decide) (h2 : op ≠ .NotIn := by decide) : behindInMarks op b = false := by
  have e1 : (op == CmpOp.In) = false := by cases op <;> first | rfl | exact absurd rfl h
  have e2 : (op == CmpOp.NotIn) = false := by cases op <;> first | rfl | exact absurd rfl h2
  cases b <;> simp [behindInMarks, e1, e2]
theorem pe_cmpR {op : CmpOp} {r : R2} (ho : OpR X (compareOp op) r) (ha : PE X a ta) (hb : PE X b tb) (hm : behindInMarks op b = false) : PE X (.Compare a [op] [b] pos) (tOp r ta tb) := by
  intro pins s σ H Q I h
  exact wpAny_Compare1 (binT ha hb I h fun v u s2 x y H2 I2 rx ry q => ho pins s2 σ H2 x y v u Q I2 rx ry q) hm
def tTest (t : TE) : TT := fun σ H Q => t σ H fun x H' => ∃ k, x = .bl k ∧ Q k H'
theorem pt_cmpR {op : CmpOp} {r : R2} (ho : OpR X (compareOp op) r) (ha : PE X a ta) (hb : PE X b tb) (hm : behindInMarks op b = false) : PT X (.Compare a [op] [b] pos) (tTest (tOp r ta tb)) := by
  intro pins s σ H Q I h
  refine wpAny_isTrue_Compare1 (thn (ha pins s σ H _ I h) fun v s1 ⟨x, H1, I1, r1, q1⟩ => thn (hb pins s1 σ H1 _ I1 q1) fun u s2 ⟨y, H2, I2, r2, q2⟩ =>
    thn (ho pins s2 σ H2 x y v u _ I2 r1 r2 q2) fun c s3 ⟨z, H3, I3, r3, k, e, q3⟩ => ?_) hm
  subst e
  cases r3
  exact wpAny_truthy_bool ⟨H3, I3, q3⟩
def tChain (r r' : R2) (ta tb tc : TE) : TE := fun σ H Q => ta σ H fun x H1 => tb σ H1 fun y H2 => r x y H2 fun z H3 => ∃ k, z = .bl k ∧
  (if k = true then tc σ H3 fun w' H4 => r' y w' H4 Q else Q (.bl false) H3)
theorem pe_chain {op op' : CmpOp} {r r' : R2} (ho : OpR X (compareOp op) r) (ho' : OpR X (compareOp op') r') (ha : PE X a ta) (hb : PE X b tb) (hc : PE X c tc)
    (hm : lastMarks [op, op'] [b, c] = false := by with_unfolding_all rfl) : PE X (.Compare a [op, op'] [b, c] pos) (tChain r r' ta tb tc) := by
  intro pins s σ H Q I h
  refine Compare_chain (thn (ha pins s σ H _ I h) fun v s1 ⟨x, H1, I1, r1, q1⟩ => chain_link (thn (hb pins s1 σ H1 _ I1 q1) fun u s2 ⟨y, H2, I2, r2, q2⟩ =>
    thn (ho pins s2 σ H2 x y v u _ I2 r1 r2 q2) fun d s3 ⟨z, H3, I3, r3, k, e, q3⟩ => ?_)) hm
  subst e
  cases r3
  refine wpAny_truthy_bool ?_
  cases k with
  | false => exact ite_ff ⟨.bl false, H3, I3, rfl, q3⟩
  | true => exact ite_tt (chain_last (thn (hc pins s3 σ H3 _ I3 q3) fun w' s4 ⟨z', H4, I4, r4, q4⟩ => ho' pins s4 σ H4 y z' u w' Q I4 r2 r4 q4))
theorem pt_chain {op op' : CmpOp} {r r' : R2} (ho : OpR X (compareOp op) r) (ho' : OpR X (compareOp op') r') (ha : PE X a ta) (hb : PE X b tb) (hc : PE X c tc)
    (hm : lastMarks [op, op'] [b, c] = false := by with_unfolding_all rfl) : PT X (.Compare a [op, op'] [b, c] pos) (tTest (tChain r r' ta tb tc)) := by
  intro pins s σ H Q I h
  refine isTrue_chain (thn (ha pins s σ H _ I h) fun v s1 ⟨x, H1, I1, r1, q1⟩ => test_link (thn (hb pins s1 σ H1 _ I1 q1) fun u s2 ⟨y, H2, I2, r2, q2⟩ =>
    thn (ho pins s2 σ H2 x y v u _ I2 r1 r2 q2) fun d s3 ⟨z, H3, I3, r3, k, e, q3⟩ => ?_)) hm
  subst e
  cases r3
  refine wpAny_truthy_bool ?_
  cases k with
  | false =>
    obtain ⟨k', e', q'⟩ := q3
    cases e'
    exact ite_ff ⟨H3, I3, q'⟩
  | true =>
    refine ite_tt (test_last (thn (hc pins s3 σ H3 _ I3 q3) fun w' s4 ⟨z', H4, I4, r4, q4⟩ => thn (ho' pins s4 σ H4 y z' u w' _ I4 r2 r4 q4) fun d' s5 ⟨z2, H5, I5, r5, k2, e2, q5⟩ => ?_))
    subst e2
    cases r5
    exact wpAny_truthy_bool ⟨H5, I5, q5⟩
theorem isEmpty_of {xs : List V} {its : List Value} (r : Vals xs its) : (!its.toArray.isEmpty) = !xs.isEmpty := by
  cases r <;> simp
theorem line63 : (sizeLine : Nat) < 2 ^ 63 := by rw [sizeLine_eq]; decide
theorem op_add_str : OpR X (binaryOp .Add) (fun x y H Q => ∃ i j, x = .str i ∧ y = .str j ∧ i.length + j.length ≤ sizeLine ∧ Q (.str (i ++ j)) H) := by
  intro pins s σ H x y v u Q I rx ry h
  obtain ⟨i, j, rfl, rfl, hz, q⟩ := h
  obtain ⟨t, rfl⟩ := rx
  obtain ⟨t', rfl⟩ := ry
  exact add_str (fun t' tk => ⟨.str (i ++ j), H, I.tok _, ⟨_, rfl⟩, q⟩) hz
theorem vals1 {x : V} {us : List Value} (r : Vals [x] us) : ∃ u, us = [u] ∧ RelV x u := by
  cases r with
  | cons r1 r2 => cases r2; exact ⟨_, rfl, r1⟩
theorem vals2 {x y : V} {us : List Value} (r : Vals [x, y] us) : ∃ u w', us = [u, w'] ∧ RelV x u ∧ RelV y w' := by
  cases r with
  | cons r1 r2 =>
    cases r2 with
    | cons r3 r4 => cases r4; exact ⟨_, _, rfl, r1, r3⟩
theorem call_abs : CallR X (.builtin "abs") (fun xs H Q => ∃ i, xs = [.int i] ∧ Q (.int (if i < 0 then -i else i)) H) := by
  intro pins s σ H xs us Q I r h
  obtain ⟨i, rfl, q⟩ := h
  obtain ⟨u, rfl, t, rfl⟩ := vals1 r
  exact call_abs_int fun u tk => ⟨.int (if i < 0 then -i else i), H, I.tok _, ⟨_, rfl⟩, q⟩
theorem call_min2 (hc : X.calm = true) : CallR X (.builtin "min") (fun xs H Q => ∃ i j, xs = [.int i, .int j] ∧ Q (.int (if j < i then j else i)) H) := by
  intro pins s σ H xs us Q I r h
  obtain ⟨i, j, rfl, q⟩ := h
  obtain ⟨u, w', rfl, ⟨t, rfl⟩, ⟨t', rfl⟩⟩ := vals2 r
  refine min_two_ints (I.ok.hd hc) fun h' tk k => ⟨_, H, I.kept k, ?_, q⟩
  by_cases hj : j < i
  · rw [if_pos hj, if_pos hj]; exact ⟨_, rfl⟩
  · rw [if_neg hj, if_neg hj]; exact ⟨_, rfl⟩
theorem call_str_int : CallR X (.type "str") (fun xs H Q => ∃ i, xs = [.int i] ∧ i.natAbs.log2 < 1920 ∧ Q (.str (toString i)) H) := by
  intro pins s σ H xs us Q I r h
  obtain ⟨i, rfl, hz, q⟩ := h
  obtain ⟨u, rfl, t, rfl⟩ := vals1 r
  exact PySem.P.str_of_int hz ⟨.str _, H, I.tok _, ⟨_, rfl⟩, q⟩
theorem call_ord : CallR X (.builtin "ord") (fun xs H Q => ∃ x, xs = [.str x] ∧ x.length = 1 ∧ Q (.int (x.cps.getD 0 0 : Nat)) H) := by
  intro pins s σ H xs us Q I r h
  obtain ⟨x, rfl, hz, q⟩ := h
  obtain ⟨u, rfl, t, rfl⟩ := vals1 r
  exact ord_of_one hz ⟨.int _, H, I.tok _, ⟨_, rfl⟩, q⟩
end
end L2
namespace L2
open PySem PySem.Spec PyProof.Rows
structure ObjM (h : Heap) (x dx C : Addr) (mA : Str → Option Value) : Prop where
  obj : h.get? x = some (PySem.W.instObj C dx)
  ns : h.Ns1 dx mA
  ne : dx ≠ x
theorem lookIn_ns {h : Heap} {dx : Addr} {mA : Str → Option Value} (n : h.Ns1 dx mA) : ∃ od, h.get? dx = some od ∧ ∀ name, PySem.W.lookIn name od = some (mA name) := by
  obtain ⟨o, es, ep, ho, hd, hk, _, hm⟩ := n
  refine ⟨o, ho, fun name => ?_⟩
  have e := hm name
  unfold nsFind findBy at e
  rw [← Array.find?_toList] at e
  unfold PySem.W.lookIn
  rw [hd]
  dsimp only
  split
  · rename_i y q
    rw [q] at e
    exact congrArg some e
  · rename_i q
    rw [q] at e
    have a : es.toList.any (·.refKey) = false := by
      rw [List.any_eq_false]
      intro y hy
      obtain ⟨z, t, hkey⟩ := hk y (Array.mem_toList_iff.mp hy)
      simp [DictEntry.refKey, hkey]
    have a' : ¬ es.toList.any (·.refKey) = true := by rw [a]; exact Bool.false_ne_true
    rw [if_neg a']
    exact congrArg some e
theorem ObjM.look {h : Heap} {x dx C : Addr} {mA : Str → Option Value} (I : ObjM h x dx C mA) : ∃ od, PySem.W.InstAt h x (PySem.W.instObj C dx) C (some od) ∧ ∀ name, PySem.W.lookIn name od = some (mA name) :=
  let ⟨od, ho, hl⟩ := lookIn_ns I.ns
  ⟨od, ⟨I.obj, rfl, rfl, ho⟩, hl⟩
section
variable {prog : Program} {w : World} {A : Around} {E : Value → Shared → Prop} {s : Shared} {K : PySem.W.Frag} {x dx C f : Addr} {mA : Str → Option Value} {name : Str} {v : Value}
theorem get_map {expr : Bool} {Q : Value → Shared → Prop} (X : K.In s.heap) (I : ObjM s.heap x dx C mA) (hg : PySem.W.plainGet K C name = true) (hh : PySem.W.hasDictIn K C = true)
    (ha : PySem.W.findIn K (.ref C) name = some none) (hv : mA name = some v) (hv' : PySem.W.handedIn v = true) (h : Q v { s with toks := s.toks + 1 }) :
    wpAny (model prog w) A (getAttr (.ref x) name expr) Q E s := by
  obtain ⟨od, J, hl⟩ := I.look
  exact PySem.W.get_value X J (PySem.W.plainGet_of hg).1 (PySem.W.findObj_own hh ha rfl (by rw [hl, hv])) hv' h
theorem get_meth {pl : Sem Bool} {Q : Value × List Value → Shared → Prop} (X : K.In s.heap) (I : ObjM s.heap x dx C mA) (hg : PySem.W.plainGet K C name = true)
    (hf : PySem.W.findIn K (.ref C) name = some (some (.ref f))) (ht : PySem.W.isFn K (.ref f) = true) (hv : mA name = none) (h : Q (.ref f, [.ref x]) s) :
    wpAny (model prog w) A (getMethod (.ref x) name pl) Q E s := by
  obtain ⟨od, J, hl⟩ := I.look
  exact PySem.W.method_fn X J (PySem.W.plainGet_of hg).1 (PySem.W.plainGet_of hg).2 hf (beq_iff_eq.mp ht) (by show (PySem.W.lookIn name od).map (·.isSome) = some false; rw [hl, hv]; rfl) h
theorem set_map {ns : List Str} {Q : Unit → Shared → Prop} (X : K.In s.heap) (I : ObjM s.heap x dx C mA)
    (hs : PySem.W.findIn K (.ref C) "__setattr__" = some (some (.builtin "object.__setattr__"))) (hp : PySem.W.plainOver K C = true) (ht : PySem.W.takerIn K C name = some none) (hh : PySem.W.hasDictIn K C = true)
    (hw : PySem.Within mA ns) (hsz : ns.length ≤ sizeLine)
    (h : ∀ h', ObjM h' x dx C (fun y => if y = name then some v else mA y) → Heap.SameBut dx s.heap h' → Q () { s with heap := h', toks := s.toks + 2 }) :
    wpAny (model prog w) A (setAttr (.ref x) name v) Q E s := by
  obtain ⟨od, J, hl⟩ := I.look
  refine PySem.W.set_plain X J hs (PySem.W.osa_open (s := { s with toks := s.toks + 1 }) (r := none) X J hp ht fun b => ?_)
  obtain ⟨cd, hc, hd'⟩ := PySem.W.any_some hh
  have hx : s.heap.get? x = some ⟨.ref C, some dx, .plain, #[]⟩ := I.obj
  refine wpAny_bind (wpAny_pure (wpAny_bind (wpAny_bind (wpAny_loadPart hx (wpAny_bind (PySem.W.Looks.here (s := { s with toks := s.toks + 1 }) (PySem.W.looks_clsIn X hc) ?_))))))
  rw [hd']
  refine wpAny_pure (a := some dx) (wpAny_bind (wpAny_pure (wpAny_bind ?_)))
  refine wpAny_nsSet1 (s := { s with toks := s.toks + 1 }) I.ns fun h' hn2 hs2 => ?_
  obtain ⟨oD, esD, epD, hoD, hdD, hcD⟩ := hn2.count (PySem.Within.cons name v hw)
  refine wpAny_bind (wpAny_lookBehind hoD (by rw [hdD]; exact pastItsLine_dict (Nat.le_trans hcD (by rw [List.length_cons]; omega))) ?_)
  exact wpAny_pure (h _ ⟨(hs2.2 _ (Ne.symm I.ne)).trans I.obj, hn2, I.ne⟩ hs2)
theorem make_map {R : Result → Shared → Prop} {vs : List Value} {kw : List (Str × Value)} (X : K.In s.heap) (hm : PySem.W.makesIn K C = true)
    (hi : PySem.W.findIn K (.ref C) "__init__" = some (some (.ref f))) (hf : PySem.W.typeIn K (.ref f) = some (.type "function"))
    (h : codeAny (model prog w) (A.under (.builtin "type.__call__" ⟨.ref C :: vs, kw⟩)) (.call (.ref f) ⟨.ref (s.heap.objs.size + 1) :: vs, kw⟩) (PySem.W.InitBack (s.heap.objs.size + 1) R)
      { s with heap := (s.heap.push PySem.W.emptyDict).push (PySem.W.instObj C s.heap.objs.size) }) :
    codeAny (model prog w) A (.call (.ref C) ⟨vs, kw⟩) R s := by
  obtain ⟨hh, g, d, t, os⟩ := s
  exact PySem.W.make_core (PySem.W.makes_of X hm) (PySem.W.looks_findIn X hi) (fun self => PySem.W.bind_fn X self hf) (.inl rfl) h
end
def putF (f : Str) (v : V) : List (Str × V) → List (Str × V)
  | [] => [(f, v)]
  | (g, x) :: r => if g = f then (g, v) :: r else (g, x) :: putF f v r
theorem lookup_putF (f g : Str) (v : V) : ∀ fs : List (Str × V), (putF f v fs).lookup g = if g = f then some v else fs.lookup g
  | [] => by
    show List.lookup g [(f, v)] = _
    by_cases h : g = f
    · have hb : (g == f) = true := beq_iff_eq.mpr h
      simp only [List.lookup, hb, if_pos h]
    · have hb : (g == f) = false := beq_eq_false_iff_ne.mpr h
      simp only [List.lookup, hb, if_neg h]
  | (k, x) :: r => by
    have ih := lookup_putF f g v r
    rw [show putF f v ((k, x) :: r) = (if k = f then (k, v) :: r else (k, x) :: putF f v r) from rfl]
    by_cases hk : k = f
    · rw [if_pos hk]
      by_cases h : g = k
      · have hb : (g == k) = true := beq_iff_eq.mpr h
        simp only [List.lookup, hb, if_pos (h.trans hk)]
      · have hb : (g == k) = false := beq_eq_false_iff_ne.mpr h
        simp only [List.lookup, hb, if_neg (fun e : g = f => h (e.trans hk.symm))]
    · rw [if_neg hk]
      by_cases h : g = k
      · have hb : (g == k) = true := beq_iff_eq.mpr h
        simp only [List.lookup, hb, if_neg (fun e : g = f => hk (h.symm.trans e))]
      · have hb : (g == k) = false := beq_eq_false_iff_ne.mpr h
        simp only [List.lookup, hb]
        exact ih
theorem keys_putF (f : Str) (v : V) : ∀ fs : List (Str × V), f ∈ (putF f v fs).map (·.1) ∧ ∀ g, g ∈ fs.map (·.1) → g ∈ (putF f v fs).map (·.1)
  | [] => ⟨by simp [putF], fun g h => by simp at h⟩
  | (k, x) :: r => by
    obtain ⟨i1, i2⟩ := keys_putF f v r
    rw [show putF f v ((k, x) :: r) = (if k = f then (k, v) :: r else (k, x) :: putF f v r) from rfl]
    by_cases hk : k = f
    · rw [if_pos hk]
      subst hk
      exact ⟨by simp, fun g h => by simpa using h⟩
    · rw [if_neg hk]
      refine ⟨?_, fun g h => ?_⟩
      · rw [List.map_cons]
        exact List.mem_cons_of_mem _ i1
      · rw [List.map_cons] at h ⊢
        rcases List.mem_cons.mp h with e | e
        · exact List.mem_cons.mpr (.inl e)
        · exact List.mem_cons_of_mem _ (i2 g e)
theorem length_putF (f : Str) (v : V) : ∀ fs : List (Str × V), (putF f v fs).length ≤ fs.length + 1
  | [] => by simp [putF]
  | (k, x) :: r => by
    have ih := length_putF f v r
    rw [show putF f v ((k, x) :: r) = (if k = f then (k, v) :: r else (k, x) :: putF f v r) from rfl]
    by_cases hk : k = f
    · rw [if_pos hk, List.length_cons, List.length_cons]; omega
    · rw [if_neg hk, List.length_cons, List.length_cons]; omega
theorem RelO.some_of {v : V} {o : Option Value} (r : RelO (some v) o) : ∃ u, o = some u ∧ RelV v u := by
  cases o with
  | none => exact (show False from r).elim
  | some u => exact ⟨u, rfl, r⟩
theorem RelO.none_of {o : Option Value} (r : RelO none o) : o = none := by
  cases o with
  | none => rfl
  | some u => exact (show False from r).elim
theorem handed_of {v : V} {u : Value} (r : RelV v u) : PySem.W.handedIn u = true := by
  cases v with
  | non => cases (show u = Value.none from r); rfl
  | bl b => cases (show u = Value.bool b from r); rfl
  | int i => obtain ⟨t, e⟩ := (show ∃ t, u = Value.int i t from r); cases e; rfl
  | str x => obtain ⟨t, e⟩ := (show ∃ t, u = Value.str x t from r); cases e; rfl
  | byt b => obtain ⟨t, e⟩ := (show ∃ t, u = Value.bytes b t from r); cases e; rfl
  | flt b => obtain ⟨t, e⟩ := (show ∃ t, u = Value.float b t from r); cases e; rfl
  | ref a => cases (show u = Value.ref a from r); rfl
  | ty n => cases (show u = Value.type n from r); rfl
section
variable {P : Program} {w : World} {H H' : Hp} {h h' : Heap} {a C dx : Addr} {fs fs' : List (Str × V)}
theorem ins_get (hok : HOk P w H h) (e : H a = some (.ins C dx fs)) : ∃ mA, ObjM h a dx C mA ∧ (∀ f, RelO (fs.lookup f) (mA f)) ∧ PySem.Within mA (fs.map (·.1)) ∧ fs.length ≤ 1000 ∧ H dx = some (.own a) := by
  obtain ⟨d, z, ne, ob, mA, n, r, q⟩ := (show ObjOk P w H h a (.ins C dx fs) from hok a _ e)
  exact ⟨mA, ⟨ob, n, ne⟩, r, q, z, d⟩
end
structure Cls (K : PySem.W.Frag) (C : Addr) : Prop where
  pg : PySem.W.plainGet K C Str.empty = true
  hd : PySem.W.hasDictIn K C = true
  po : PySem.W.plainOver K C = true
  sa : PySem.W.findIn K (.ref C) "__setattr__" = some (some (.builtin "object.__setattr__"))
theorem Cls.get {K : PySem.W.Frag} {C : Addr} (c : Cls K C) (f : Str) : PySem.W.plainGet K C f = true := c.pg
def NoAttr (K : PySem.W.Frag) (C : Addr) (f : Str) : Prop := PySem.W.findIn K (.ref C) f = some none
theorem NoAttr.taker {K : PySem.W.Frag} {C : Addr} {f : Str} (n : NoAttr K C f) : PySem.W.takerIn K C f = some none := by
  unfold PySem.W.takerIn
  rw [show PySem.W.findIn K (.ref C) f = some none from n]
  rfl
structure Con (K : PySem.W.Frag) (C : Addr) (f : Str) (v : V) (u : Value) : Prop where
  at_ : PySem.W.findIn K (.ref C) f = some (some u)
  rel : RelV v u
  get : PySem.W.specialIn K u "__get__" = some none
  cp : PySem.W.copiedNames.contains f = false
structure Meth (K : PySem.W.Frag) (C : Addr) (m : Str) (f : Addr) : Prop where
  at_ : PySem.W.findIn K (.ref C) m = some (some (.ref f))
  fn : PySem.W.isFn K (.ref f) = true
  kp : PySem.W.keepIn K (.ref f) = true
section
variable {X : Cx} {pins : List (Addr × Obj)} {σ : St} {H : Hp} {s : Shared} {a C dx : Addr} {fs : List (Str × V)} {f : Str} {v : V} {A : Around} {E : Value → Shared → Prop}
theorem getattr_ok {b : Bool} {Q : Value → Shared → Prop} (I : Inv X pins σ H s) (e : H a = some (.ins C dx fs)) (c : Cls X.K C) (n : NoAttr X.K C f) (l : fs.lookup f = some v)
    (h : ∀ u s', Inv X pins σ H s' → RelV v u → Q u s') : wpAny (model X.prog X.w) A (getAttr (.ref a) f b) Q E s := by
  obtain ⟨mA, O, r, _, _, _⟩ := ins_get I.hok e
  obtain ⟨u, hu, ru⟩ := RelO.some_of (v := v) (o := mA f) (by rw [← l]; exact r f)
  exact get_map I.kIn O (c.get f) c.hd n hu (handed_of ru) (h u _ (I.tok _) ru)
theorem getmeth_ok {m : Str} {g : Addr} {pl : Sem Bool} {Q : Value × List Value → Shared → Prop} (I : Inv X pins σ H s) (e : H a = some (.ins C dx fs)) (c : Cls X.K C) (k : Meth X.K C m g) (l : fs.lookup m = none)
    (h : Q (.ref g, [.ref a]) s) : wpAny (model X.prog X.w) A (getMethod (.ref a) m pl) Q E s := by
  obtain ⟨mA, O, r, _, _, _⟩ := ins_get I.hok e
  have hn : mA m = none := RelO.none_of (by rw [← l]; exact r m)
  exact get_meth I.kIn O (c.get m) k.at_ k.fn hn h
theorem setattr_ok {y : V} {u : Value} {Q : Unit → Shared → Prop} (I : Inv X pins σ H s) (e : H a = some (.ins C dx fs)) (c : Cls X.K C) (n : NoAttr X.K C f) (hl : fs.length < 1000) (ry : RelV y u)
    (h : ∀ s', Inv X pins σ (upd H a (.ins C dx (putF f y fs))) s' → Q () s') : wpAny (model X.prog X.w) A (setAttr (.ref a) f u) Q E s := by
  obtain ⟨mA, O, r, wi, _, ho⟩ := ins_get I.hok e
  have hz : (fs.map (·.1)).length ≤ sizeLine := by rw [List.length_map, sizeLine_eq]; omega
  refine set_map I.kIn O c.sa c.po n.taker c.hd wi hz fun h' O' sb => h _ ?_
  have hd : ∃ o, h'.get? dx = some o := let ⟨o, _, _, e', _⟩ := O'.ns; ⟨o, e'⟩
  refine I.write (x := a) (e := dx) (by rw [e]; exact True.intro) (.inr ho) (fun b q hb z => (sb.2 b hb).trans z) hd ?_
  refine ⟨by rw [upd_ne O.ne]; exact ho, ?_, O.ne, O'.obj, _, O'.ns, fun g => ?_, fun g hg => ?_⟩
  · have := length_putF f y fs; omega
  · show RelO ((putF f y fs).lookup g) (if g = f then some u else mA g)
    rw [lookup_putF]
    by_cases q : g = f
    · rw [if_pos q, if_pos q]; exact ry
    · rw [if_neg q, if_neg q]; exact r g
  · by_cases q : g = f
    · rw [q]; exact (keys_putF f y fs).1
    · refine (keys_putF f y fs).2 g (wi g fun z => hg ?_)
      show (if g = f then some u else mA g) = none
      rw [if_neg q]; exact z
theorem Inv.made (I : Inv X pins σ H s) : Inv X pins σ (upd (upd H s.heap.objs.size (.own (s.heap.objs.size + 1))) (s.heap.objs.size + 1) (.ins C s.heap.objs.size []))
    { s with heap := (s.heap.push PySem.W.emptyDict).push (PySem.W.instObj C s.heap.objs.size) } := by
  have e1 : (s.heap.push PySem.W.emptyDict).get? s.heap.objs.size = some PySem.W.emptyDict := Heap.get?_push_size s.heap rfl
  have e2 : ((s.heap.push PySem.W.emptyDict).push (PySem.W.instObj C s.heap.objs.size)).get? (s.heap.objs.size + 1) = some (PySem.W.instObj C s.heap.objs.size) := by
    have := Heap.get?_push_size (s.heap.push PySem.W.emptyDict) (o := PySem.W.instObj C s.heap.objs.size) rfl
    rwa [Heap.size_push] at this
  have e3 : (s.heap.push PySem.W.emptyDict).Ns s.heap.objs.size (fun _ => none) := ⟨PySem.W.emptyDict, #[], _, e1, rfl, (fun e he => absurd he (by simp)), fun _ => rfl⟩
  have I1 := I.laid (a := s.heap.objs.size) (o := .own (s.heap.objs.size + 1)) (h' := s.heap.push PySem.W.emptyDict) (t' := s.toks) (fun b u q => Heap.get?_push_of_some _ q) (Nat.le_refl _) ⟨_, e1⟩
  refine I1.laid (a := s.heap.objs.size + 1) (o := .ins C s.heap.objs.size []) (t' := s.toks) (fun b u q => Heap.get?_push_of_some _ q) (Nat.le_of_eq (Heap.size_push _ _)) ?_
  have ne : s.heap.objs.size ≠ s.heap.objs.size + 1 := Nat.ne_of_lt (Nat.lt_succ_self _)
  refine ⟨by rw [upd_ne ne, upd_same], Nat.zero_le _, ne, e2, fun _ => none, (Heap.Ns1.of_empty e3).at fun o q => Heap.get?_push_of_some _ q, fun _ => True.intro, fun y hy => absurd rfl hy⟩
theorem attr_of {prog : Program} {w : World} {env : Env} {e : Expr} {f : Str} {pos : Pos} {s : Shared} {Q : Value → Shared → Prop} (hb : attributeBase e f env (eval e env) = eval e env)
    (h : wpAny (model prog w) A (eval e env) (fun o s₁ => wpAny (model prog w) A (getAttr o f true) Q E s₁) E s) : wpAny (model prog w) A (eval (.Attribute e f pos) env) Q E s :=
  Attribute_any_ h (by rw [arm_eval_Attribute, hb])
end
def tFld (K : PySem.W.Frag) (ta : TE) (f : Str) : TE := fun σ H Q => ta σ H fun x H1 => ∃ a C dx fs v, x = .ref a ∧ H1 a = some (.ins C dx fs) ∧ Cls K C ∧ NoAttr K C f ∧ fs.lookup f = some v ∧ Q v H1
section
variable {X : Cx} {o e value : Expr} {f : Str} {pos pos' tpos : Pos} {ta tv : TE}
theorem pe_fld (he : PE X e ta) (hb : attributeBase e f X.env (eval e X.env) = eval e X.env) : PE X (.Attribute e f pos) (tFld X.K ta f) := by
  intro pins s σ H Q I h
  refine attr_of hb (thn (he pins s σ H _ I h) fun u s1 ⟨x, H1, I1, rx, a, C, dx, fs, v, ex, ea, c, n, l, q⟩ => ?_)
  subst ex
  obtain rfl : u = Value.ref a := rx
  exact getattr_ok I1 ea c n l fun u' s2 I2 ru => ⟨v, H1, I2, ru, q⟩
end
section
variable {X : Cx} {pins : List (Addr × Obj)} {σ : St} {H : Hp} {s : Shared} {A : Around} {E : Value → Shared → Prop} {Q : Value → Shared → Prop} {c : Value} {b : Bool}
end
end L2
namespace L2
open PySem PySem.Spec PyProof.Rows
structure Room (k : Nat) (A : Around) : Prop where
  hd : A.handled = none
  dp : A.depth + 3 * k + 5 < recursionLimit
  un : A.units + 16 * k + 200 < cLine
theorem Room.mono {j k : Nat} {A : Around} (r : Room k A) (h : j ≤ k) : Room j A := ⟨r.hd, by have := r.dp; omega, by have := r.un; omega⟩
theorem Room.deeper {k : Nat} {A : Around} (r : Room (k + 1) A) (env : Env) : Room k (A.deeper env) :=
  ⟨r.hd, by have := r.dp; show A.depth + 1 + 3 * k + 5 < _; omega, by have := r.un; show A.units + 3 + 16 * k + 200 < _; omega⟩
theorem Room.in1 {k : Nat} {A : Around} (r : Room (k + 1) A) : Room k A.in1 :=
  ⟨r.hd, by have := r.dp; show A.depth + 3 * k + 5 < _; omega, by have := r.un; show A.units + 1 + 16 * k + 200 < _; omega⟩
theorem make_depth {A : Around} {C : Addr} {us : List Value} {kw : List (Str × Value)} : (A.under (.builtin "type.__call__" ⟨.ref C :: us, kw⟩)).depth = A.depth + 1 := by
  first | rfl | simp [Around.under, Code.weight, Code.isCreation, Code.isGuard, Code.isCaller, Code.frames, Code.isFrame, guardIds]
theorem make_units {A : Around} {C : Addr} {us : List Value} {kw : List (Str × Value)} : (A.under (.builtin "type.__call__" ⟨.ref C :: us, kw⟩)).units = A.units + 1 := by
  first | rfl | simp [Around.under, Code.cUnits, Code.frames, Code.isFrame]
theorem Room.make {k : Nat} {A : Around} (r : Room (k + 1) A) (C : Addr) (us : List Value) (kw : List (Str × Value)) : Room k (A.under (.builtin "type.__call__" ⟨.ref C :: us, kw⟩)) :=
  ⟨r.hd, by have := r.dp; rw [make_depth]; omega, by have := r.un; rw [make_units]; omega⟩
theorem Room.depth {k : Nat} {A : Around} (r : Room k A) : A.depth < recursionLimit := by have := r.dp; omega
theorem Room.units {k : Nat} {A : Around} (r : Room k A) : A.units + 64 < cLine := by have := r.un; omega
def tNil : TA := fun _ H Q => Q [] H
def tCons (ta : TE) (tr : TA) : TA := fun σ H Q => ta σ H fun x H1 => tr σ H1 fun xs H2 => Q (x :: xs) H2
section
variable {X : Cx} {e : Expr} {es : List Expr} {te : TE} {t : TA} {pos : Pos}
theorem pa_nil : PA X [] tNil := fun _ _ _ _ H Q I h => Calls.spliced_nil ⟨[], H, I, .nil, h⟩
theorem pa_cons (ha : PE X e te) (hr : PA X es t) (hs : starEach (e :: es) X.env = (false, eval e X.env) :: starEach es X.env := by rfl) : PA X (e :: es) (tCons te t) := by
  intro pos pins s σ H Q I h
  rw [hs]
  show wpAny _ _ (spliced ((false, eval e X.env) :: backTo pos (starEach es X.env))) _ _ s
  refine Calls.spliced_cons (thn (ha pins s σ H _ I h) fun u s1 ⟨x, H1, I1, r1, q1⟩ => ?_)
  exact thn (hr pos pins s1 σ H1 _ I1 q1) fun us s2 ⟨xs, H2, I2, r2, q2⟩ => ⟨x :: xs, H2, I2, .cons r1 r2, q2⟩
end
abbrev Sp := List V → Hp → VK → XK → Prop
abbrev CXT := List Env → Hp → Shared → XK → Value → Shared → Prop
structure Env0 (P : Program) (w : World) (K : PySem.W.Frag) (mg : Str → Option Value) (base : Heap) (A : Around) (outer : List Env) (s : Shared) (H : Hp) : Prop where
  frames : A.frames = some outer
  mod : Mod K mg base
  bs : ∀ b o, base.get? b = some o → s.heap.get? b = some o ∧ H b = none
  bsz : base.objs.size ≤ s.heap.objs.size
  funs : s.heap.FunFrames base outer
  frf : ∀ b ∈ frs outer, H b = none
  hok : HOk P w H s.heap
  bare : AllBare s.gens
def CE (outer : List Env) (P : Program) (w : World) (H : Hp) (s : Shared) (Q : VK) (u : Value) (s' : Shared) : Prop :=
  ∃ v H', s'.os = s.os ∧ AllBare s'.gens ∧ Un (frs outer) [] H H' s.heap s'.heap ∧ HOk P w H' s'.heap ∧ RelV v u ∧ Q v H'
def CR (CX : CXT) (outer : List Env) (P : Program) (w : World) (H : Hp) (s : Shared) (Q : VK) (E : XK) (r : Result) (s' : Shared) : Prop :=
  match r with
  | .ok (.ret u) => CE outer P w H s Q u s'
  | .ok _ => False
  | .error e => CX outer H s E e s'
structure FnOk (P : Program) (w : World) (K : PySem.W.Frag) (mg : Str → Option Value) (base : Heap) (CX : CXT) (k : Nat) (f : Addr) (fd : FuncData) (ps : List Str) (sp : Sp) : Prop where
  len : ∀ vs H Q E, sp vs H Q E → vs.length = ps.length
  run : ∀ (A : Around) (outer : List Env) (s : Shared) (H : Hp) (args : Args) (us : List Value) (vs : List V) (Q : VK) (E : XK), Room k A → Env0 P w K mg base A outer s H → BindsTo s fd args (ps.zip us) → Vals vs us → sp vs H Q E →
    codeAny (model P w) A (.call (.ref f) args) (CR CX outer P w H s Q E) s
theorem FnOk.mono {P : Program} {w : World} {K : PySem.W.Frag} {mg : Str → Option Value} {base : Heap} {CX : CXT} {j k : Nat} {f : Addr} {fd : FuncData} {ps : List Str} {sp : Sp} (F : FnOk P w K mg base CX j f fd ps sp) (h : j ≤ k) :
    FnOk P w K mg base CX k f fd ps sp := ⟨F.len, fun A outer s H args us vs Q E hr => F.run A outer s H args us vs Q E (hr.mono h)⟩
theorem Env0.make {P : Program} {w : World} {K : PySem.W.Frag} {mg : Str → Option Value} {base : Heap} {A : Around} {outer : List Env} {s : Shared} {H : Hp} (e : Env0 P w K mg base A outer s H) (C : Addr) (us : List Value) (kw : List (Str × Value)) :
    Env0 P w K mg base (A.under (.builtin "type.__call__" ⟨.ref C :: us, kw⟩)) outer s H := ⟨by first | exact e.frames | (simpa [Around.under, Code.envs, Code.isFrame, pushEnvs] using e.frames), e.mod, e.bs, e.bsz, e.funs, e.frf, e.hok, e.bare⟩
theorem Env0.in1 {P : Program} {w : World} {K : PySem.W.Frag} {mg : Str → Option Value} {base : Heap} {A : Around} {outer : List Env} {s : Shared} {H : Hp} (e : Env0 P w K mg base A outer s H) :
    Env0 P w K mg base A.in1 outer s H := ⟨e.frames, e.mod, e.bs, e.bsz, e.funs, e.frf, e.hok, e.bare⟩
section
variable {X : Cx} {pins : List (Addr × Obj)} {σ : St} {H : Hp} {s s' : Shared}
theorem Inv.env0 (I : Inv X pins σ H s) : Env0 X.prog X.w X.K X.mg X.base X.A X.stack s H :=
  ⟨I.ok.frames, I.ok.mod, I.bs, Nat.le_trans I.ok.bsz I.sz, I.stack, I.stkFree, I.hok, I.bare⟩
theorem Inv.after {Q : VK} {u : Value} (I : Inv X pins σ H s) (h : CE X.stack X.prog X.w H s Q u s') : EP X pins σ Q u s' := by
  obtain ⟨v, H', os, bare, un, hok, r, q⟩ := h
  obtain ⟨hh, g, d, t, os'⟩ := s'
  obtain rfl : os' = s.os := os
  exact ⟨v, H', I.call (h' := hh) (g' := g) (d' := d) (t' := t) (ch := []) un hok bare (fun b z => absurd z (by simp)), r, q⟩
end
def tCall (sp : Sp) (dvs : List V) (E : XK) (t : TA) : TE := fun σ H Q => t σ H fun vs H1 => sp (vs ++ dvs) H1 Q E
def tMeth (C : Addr) (m : Str) (sp : Sp) (dvs : List V) (E : XK) (ta : TE) (t : TA) : TE := fun σ H Q => ta σ H fun x H1 => ∃ a dx fs, x = .ref a ∧ H1 a = some (.ins C dx fs) ∧ fs.lookup m = none ∧
  t σ H1 fun vs H2 => sp (x :: (vs ++ dvs)) H2 Q E
def Binds (K : PySem.W.Frag) (fd : FuncData) (ps : List Str) (ds : List Value) : Prop :=
  ∀ (s : Shared) (us : List Value), K.In s.heap → (us ++ ds).length = ps.length → BindsTo s fd ⟨us, []⟩ (ps.zip (us ++ ds))
theorem Binds.all {K : PySem.W.Frag} {fd : FuncData} {ps : List Str} (h : ∀ us : List Value, us.length = ps.length → bindArgs fd ⟨us, []⟩ = pure (ps.zip us)) : Binds K fd ps [] := fun s us _ hl => by
  rw [List.append_nil] at hl ⊢
  exact .of_eq (h us hl)
def Passes (CX : CXT) (X : Cx) (E : XK) : Prop := ∀ (pins : List (Addr × Obj)) (σ : St) (H : Hp) (s : Shared) (e : Value) (s' : Shared), Inv X pins σ H s → CX X.stack H s E e s' → X.xe e s'
section
variable {X : Cx} {CX : CXT} {k : Nat} {f C : Addr} {fd : FuncData} {ps : List Str} {sp : Sp} {dvs : List V} {ds : List Value} {E : XK} {x m : Str} {p pos apos : Pos} {e o : Expr} {es : List Expr} {ta : TE} {t : TA}
theorem run_fn {pins : List (Addr × Obj)} {σ : St} {H : Hp} {s : Shared} {Q : VK} {us : List Value} {vs : List V} (F : FnOk X.prog X.w X.K X.mg X.base CX k f fd ps sp) (hr : Room k X.A) (hb : Binds X.K fd ps ds) (hd : Vals dvs ds) (hx : Passes CX X E)
    (I : Inv X pins σ H s) (r : Vals vs us) (h : sp (vs ++ dvs) H Q E) : wpAny (model X.prog X.w) X.A (call (.ref f) us) (EP X pins σ Q) X.xe s := by
  have r2 : Vals (vs ++ dvs) (us ++ ds) := r.append hd
  have hl : (us ++ ds).length = ps.length := by rw [← r2.length]; exact F.len _ _ _ _ h
  refine wpAny_call (codeAny_mono (F.run X.A X.stack s H ⟨us, []⟩ (us ++ ds) (vs ++ dvs) Q E hr I.env0 (hb s us I.kIn hl) r2 h) fun r s' hq => ?_)
  cases r with
  | error e => exact hx pins σ H s e s' I hq
  | ok fl =>
    cases fl with
    | ret u => exact I.after hq
    | next => exact False.elim hq
    | brk => exact False.elim hq
    | cont => exact False.elim hq
theorem pe_call (F : FnOk X.prog X.w X.K X.mg X.base CX k f fd ps sp) (hr : Room k X.A) (hg : Gl X x) (hm : X.mg x = some (.ref f)) (hk : PySem.W.keepIn X.K (.ref f) = true) (hb : Binds X.K fd ps ds) (hd : Vals dvs ds) (hx : Passes CX X E)
    (ha : PA X (e :: es) t) (hdb : (x == ("__debug__" : Str)) = false := by decide) (he : starEach (e :: es) X.env = (false, eval e X.env) :: starEach es X.env := by rfl) (hpl : (backTo pos (starEach es X.env)).any (·.1) = false := by rfl) :
    PE X (.Call (.Name x p) (e :: es) [] pos) (tCall sp dvs E t) := by
  intro pins s σ H Q I h
  refine wpAny_Call_Name_kw (ld_glob I hg hm ?_ hdb)
  refine PySem.W.callWith_K (h₀ := X.base) I.ok.mod.kin hk (thn (ha pos pins s σ H _ I h) fun us s1 ⟨vs, H1, I1, r, q⟩ => ⟨I1.kIn, ?_⟩) he hpl
  exact run_fn F hr hb hd hx I1 r q
theorem pe_meth {pl : Sem Bool} (he : PE X o ta) (c : Cls X.K C) (hm : Meth X.K C m f) (F : FnOk X.prog X.w X.K X.mg X.base CX k f fd ps sp) (hr : Room k X.A) (hb : Binds X.K fd ps ds) (hd : Vals dvs ds) (hx : Passes CX X E) (ha : PA X (e :: es) t)
    (hst : starEach (e :: es) X.env = (false, eval e X.env) :: starEach es X.env := by rfl) (hpl : (backTo pos (starEach es X.env)).any (·.1) = false := by rfl)
    (ht : eval (.Call (.Attribute o m apos) (e :: es) [] pos) X.env = (do
      let ov ← eval o X.env
      standAt apos.atName
      let (f, first) ← holding [ov] (getMethod ov m pl)
      callWith pos f first (backTo pos (starEach (e :: es) X.env)) (backToKw pos (keywordEach [] X.env))) := by rfl) :
    PE X (.Call (.Attribute o m apos) (e :: es) [] pos) (tMeth C m sp dvs E ta t) := by
  intro pins s σ H Q I h
  refine PySem.W.methodCall_KW (pl := pl) (thn (he pins s σ H _ I h) fun u s1 ⟨x, H1, I1, rx, a, dx, fs, ex, ea, l, q⟩ => ?_) ht
  subst ex
  obtain rfl : u = Value.ref a := rx
  refine getmeth_ok I1 ea c hm l ?_
  refine PySem.W.callWith_K (first := [.ref a]) (h₀ := X.base) I.ok.mod.kin hm.kp (thn (ha pos pins s1 σ H1 _ I1 q) fun us s2 ⟨vs, H2, I2, r, q2⟩ => ⟨I2.kIn, ?_⟩) hst hpl
  exact run_fn (us := .ref a :: us) (vs := .ref a :: vs) F hr hb hd hx I2 (.cons rfl r) q2
theorem pe_meth0 {pl : Sem Bool} (he : PE X o ta) (c : Cls X.K C) (hm : Meth X.K C m f) (F : FnOk X.prog X.w X.K X.mg X.base CX k f fd ps sp) (hr : Room k X.A) (hb : Binds X.K fd ps ds) (hd : Vals dvs ds) (hx : Passes CX X E)
    (ht : eval (.Call (.Attribute o m apos) [] [] pos) X.env = (do
      let ov ← eval o X.env
      standAt apos.atName
      let (f, first) ← holding [ov] (getMethod ov m pl)
      callWith pos f first (backTo pos (starEach [] X.env)) (backToKw pos (keywordEach [] X.env))) := by rfl) :
    PE X (.Call (.Attribute o m apos) [] [] pos) (tMeth C m sp dvs E ta tNil) := by
  intro pins s σ H Q I h
  refine PySem.W.methodCall_KW (pl := pl) (thn (he pins s σ H _ I h) fun u s1 ⟨x, H1, I1, rx, a, dx, fs, ex, ea, l, q⟩ => ?_) ht
  subst ex
  obtain rfl : u = Value.ref a := rx
  refine getmeth_ok I1 ea c hm l ?_
  exact PySem.W.callWith_K0 (first := [.ref a]) I1.kIn hm.kp (run_fn (us := [.ref a]) (vs := [.ref a]) F hr hb hd hx I1 (.cons rfl .nil) q)
structure Mk (K : PySem.W.Frag) (C f : Addr) : Prop where
  makes : PySem.W.makesIn K C = true
  init : PySem.W.findIn K (.ref C) "__init__" = some (some (.ref f))
  fn : PySem.W.isFn K (.ref f) = true
  kp : PySem.W.keepIn K (.ref C) = true
theorem run_make {pins : List (Addr × Obj)} {σ : St} {H : Hp} {s : Shared} {Q : VK} {us : List Value} {vs : List V} (M : Mk X.K C f) (F : FnOk X.prog X.w X.K X.mg X.base CX k f fd ps sp) (hr : Room (k + 1) X.A) (hb : Binds X.K fd ps ds) (hd : Vals dvs ds)
    (hx : Passes CX X E) (I : Inv X pins σ H s) (r : Vals vs us)
    (h : ∀ x dx, H x = none → H dx = none → dx ≠ x → sp (.ref x :: (vs ++ dvs)) (upd (upd H dx (.own x)) x (.ins C dx [])) (fun v H2 => v = .non ∧ Q (.ref x) H2) E) :
    wpAny (model X.prog X.w) X.A (call (.ref C) us) (EP X pins σ Q) X.xe s := by
  have hq := h (s.heap.objs.size + 1) s.heap.objs.size (I.hok.fresh (Nat.le_succ _)) (I.hok.fresh (Nat.le_refl _)) (Nat.ne_of_lt (Nat.lt_succ_self _))
  have I2 := Inv.made (C := C) I
  have r2 : Vals (V.ref (s.heap.objs.size + 1) :: (vs ++ dvs)) (Value.ref (s.heap.objs.size + 1) :: (us ++ ds)) := .cons rfl (r.append hd)
  have hl : (Value.ref (s.heap.objs.size + 1) :: us ++ ds).length = ps.length := by
    have e := r2.length
    rw [F.len _ _ _ _ hq] at e
    exact e.symm
  refine wpAny_call (make_map (f := f) I.kIn M.makes M.init (beq_iff_eq.mp M.fn) (codeAny_mono (F.run _ X.stack _ _ ⟨Value.ref (s.heap.objs.size + 1) :: us, []⟩ (Value.ref (s.heap.objs.size + 1) :: (us ++ ds)) _ _ E (hr.make C us [])
    (I2.env0.make C us []) (hb _ (Value.ref (s.heap.objs.size + 1) :: us) I2.kIn hl) r2 hq) fun r s' hq' => ?_))
  cases r with
  | error e => exact hx pins σ _ _ e s' I2 hq'
  | ok fl =>
    cases fl with
    | ret u =>
      obtain ⟨v, H', I3, rv, ev, q3⟩ := I2.after hq'
      subst ev
      exact ⟨rv, ⟨V.ref (s.heap.objs.size + 1), H', I3, rfl, q3⟩⟩
    | next => exact False.elim hq'
    | brk => exact False.elim hq'
    | cont => exact False.elim hq'
end
section
variable {X : Cx} {CX : CXT} {k : Nat} {f C : Addr} {fd : FuncData} {ps ks : List Str} {sp : Sp} {E : XK} {x m : Str} {p pos apos kpos : Pos} {e o : Expr} {es : List Expr} {kws : List Keyword} {te ta : TE} {t tk : TA} {nm : Option Str}
variable {g : List Value → List Value → List Value} {gV : List V → List V → List V}
end
structure FnScope (N P : List Str) (sc : Scope) : Prop where
  kind : sc.kind = .function
  co : sc.isCoroutine = false
  gen : sc.isGenerator = false
  nd : N.Nodup
  pre : N.take P.length = P
  par : ∀ x ∈ P, sc.names.lookup x = some .local ∨ sc.names.lookup x = some .cell
  nofree : ∀ y ∈ sc.names, y.2 ≠ .free
theorem bindL_out {kindOf : Str → Option NameKind} {x : Str} : ∀ {binds : List (Str × Value)} {m : Str → Option Value}, (∀ v, (x, v) ∉ binds) → bindL kindOf binds m x = m x
  | [], _, _ => rfl
  | (n, v) :: r, m, h => by
    unfold bindL
    rw [bindL_out fun w hw => h w (List.mem_cons_of_mem _ hw)]
    split
    · have : x ≠ n := by rintro rfl; exact h v List.mem_cons_self
      simp [this]
    · rfl
theorem bindC_out {kindOf : Str → Option NameKind} {x : Str} : ∀ {binds : List (Str × Value)} {m : Str → Option Value}, (∀ v, (x, v) ∉ binds) → bindC kindOf binds m x = m x
  | [], _, _ => rfl
  | (n, v) :: r, m, h => by
    unfold bindC
    rw [bindC_out fun w hw => h w (List.mem_cons_of_mem _ hw)]
    split
    · rfl
    · have : x ≠ n := by rintro rfl; exact h v List.mem_cons_self
      simp [this]
theorem bindL_get {kindOf : Str → Option NameKind} {x : Str} {v : Value} : ∀ {P : List Str} {vs : List Value} {i : Nat} {m : Str → Option Value}, P.Nodup → P[i]? = some x → vs[i]? = some v → kindOf x = some .local →
    bindL kindOf (P.zip vs) m x = some v
  | [], _, _, _, _, h, _, _ => by simp at h
  | _ :: _, [], _, _, _, _, h, _ => by simp at h
  | p :: P, w :: vs, 0, m, nd, h1, h2, hk => by
    simp at h1 h2; subst h1; subst h2
    show bindL kindOf ((p, w) :: P.zip vs) m p = _
    unfold bindL
    rw [bindL_out fun v hv => (List.nodup_cons.mp nd).1 (List.of_mem_zip hv).1, if_pos hk]
    simp
  | p :: P, w :: vs, i + 1, m, nd, h1, h2, hk => by
    show bindL kindOf ((p, w) :: P.zip vs) m x = _
    unfold bindL
    exact bindL_get (i := i) (List.nodup_cons.mp nd).2 (by simpa using h1) (by simpa using h2) hk
theorem bindC_get {kindOf : Str → Option NameKind} {x : Str} {v : Value} : ∀ {P : List Str} {vs : List Value} {i : Nat} {m : Str → Option Value}, P.Nodup → P[i]? = some x → vs[i]? = some v → kindOf x ≠ some .local →
    bindC kindOf (P.zip vs) m x = some v
  | [], _, _, _, _, h, _, _ => by simp at h
  | _ :: _, [], _, _, _, _, h, _ => by simp at h
  | p :: P, w :: vs, 0, m, nd, h1, h2, hk => by
    simp at h1 h2; subst h1; subst h2
    show bindC kindOf ((p, w) :: P.zip vs) m p = _
    unfold bindC
    rw [bindC_out fun v hv => (List.nodup_cons.mp nd).1 (List.of_mem_zip hv).1, if_neg hk]
    simp
  | p :: P, w :: vs, i + 1, m, nd, h1, h2, hk => by
    show bindC kindOf ((p, w) :: P.zip vs) m x = _
    unfold bindC
    exact bindC_get (i := i) (List.nodup_cons.mp nd).2 (by simpa using h1) (by simpa using h2) hk
def start (N : List Str) (vs : List V) : St := vs.map some ++ List.replicate (N.length - vs.length) none
def cxOf (CX : CXT) (P : Program) (w : World) (K : PySem.W.Frag) (mg : Str → Option Value) (base : Heap) (N : List Str) (qual : Str) (scope : Scope) (f : Addr) (cd : Value) (A : Around) (outer : List Env) (s : Shared) (H : Hp) (E : XK) : Cx where
  prog := P
  w := w
  K := K
  mg := mg
  base := base
  A := A.deeper (envOfC qual scope s.heap.objs.size f cd)
  N := N
  s_0 := s
  H_0 := H
  env := envOfC qual scope s.heap.objs.size f cd
  outer := outer
  stack := envOfC qual scope s.heap.objs.size f cd :: outer
  ex := []
  calm := true
  fn := fun _ => true
  pn := []
  xe := fun e s' => wpAny (model P w) (A.deeper (envOfC qual scope s.heap.objs.size f cd)) (leaving (envOfC qual scope s.heap.objs.size f cd) e) (fun _ s'' => CX outer H s E e s'') (fun e' s'' => CX outer H s E e' s'') s'
theorem cell_has {sc : Scope} {n : Nat} {x : Str} (h : sc.names.lookup x = some .cell) : ∃ c, (cellsFrom n sc.names []).lookup x = some c := by
  have q := PySem.W.cellsFrom_some sc.names n [] (.inl h)
  exact Option.isSome_iff_exists.mp q
theorem inv_start {CX : CXT} {P : Program} {w : World} {K : PySem.W.Frag} {mg : Str → Option Value} {base : Heap} {N ps : List Str} {qual : Str} {scope : Scope} {f : Addr} {cd : Value} {A : Around} {outer : List Env} {s s1 : Shared} {H : Hp} {E : XK} {us : List Value} {vs : List V}
    (S : FnScope N ps scope) (hd : A.handled = none) (e0 : Env0 P w K mg base A outer s H) (hl : vs.length = ps.length) (r : Vals vs us)
    (x : InCallC s s.heap.objs.size (bindL (envOfC qual scope s.heap.objs.size f cd).kindOf (ps.zip us) fun _ => none) (cellsFrom (s.heap.objs.size + 1) scope.names []) (bindC (envOfC qual scope s.heap.objs.size f cd).kindOf (ps.zip us) fun _ => none) s1) :
    Inv (cxOf CX P w K mg base N qual scope f cd A outer s H E) [] (start N vs) H s1 := by
  have hpl : ps.length ≤ N.length := by have := congrArg List.length S.pre; rw [List.length_take] at this; omega
  obtain ⟨h1, tk, rfl, hk⟩ := x.done
  have noA : ∀ b : Addr, b ∉ (cxOf CX P w K mg base N qual scope f cd A outer s H E).ex := fun b z => absurd (show b ∈ ([] : List Addr) from z) (by simp)
  refine ⟨⟨e0.mod, S.kind, rfl, rfl, Nat.le_refl _, fun y z c h1 h2 => ?_, fun y hy => ?_, fun y c _ h => ?_, fun _ => hd, Around.frames_deeper e0.frames, .inr ⟨rfl, rfl⟩, fun b z => absurd z (noA b), e0.bs, e0.bsz, fun b _ _ => noA b, fun b z => absurd z (noA b), e0.funs, e0.frf⟩,
    rfl, e0.bare, Un.kept hk, ⟨_, x.toInCall.ns, fun i y v h1 h2 h3 => ?_⟩, fun y c h => ⟨_, x.cell y c h⟩, e0.hok.fresh (Nat.le_refl _), fun y c h => ?_, fun p hp => absurd (show p ∈ ([] : List (Addr × Obj)) from hp) (by simp), e0.hok.kept hk, ?_⟩
  · exact name_of_addr x.apart (PySem.mem_of_lookup h1) (PySem.mem_of_lookup h2)
  · have hy : scope.names.lookup y = some .cell ∨ scope.names.lookup y = some .free := hy
    rcases hy with hy | hy
    · exact cell_has hy
    · exact absurd rfl (S.nofree _ (PySem.mem_of_lookup hy))
  · exact Nat.le_of_lt (x.above y c (PySem.mem_of_lookup h))
  · have hi : i < vs.length := by
      unfold start at h2
      by_cases hi : i < vs.length
      · exact hi
      · rw [List.getElem?_append_right (by simpa using hi)] at h2
        rw [List.getElem?_replicate] at h2
        split at h2 <;> cases h2
    have ha : vs[i]? = some v := by
      unfold start at h2
      rw [List.getElem?_append_left (by simpa using hi), List.getElem?_map] at h2
      cases e : vs[i]? with
      | none => rw [e] at h2; cases h2
      | some a => rw [e] at h2; cases h2; rfl
    obtain ⟨u, hu, rv⟩ := r.get ha
    have hp : ps[i]? = some y := by
      rw [← S.pre, List.getElem?_take_of_lt (by omega)]; exact h1
    have ndP : ps.Nodup := by rw [← S.pre]; exact S.nd.sublist (List.take_sublist _ _)
    refine ⟨u, rv, ?_⟩
    rcases S.par y (List.mem_of_getElem? hp) with k | k
    · exact .inl ⟨k, bindL_get ndP hp hu k⟩
    · obtain ⟨c, e⟩ := cell_has (n := s.heap.objs.size + 1) k
      refine .inr ⟨.inl k, c, e, ?_⟩
      have q := x.cell y c e
      rw [bindC_get ndP hp hu (by show scope.names.lookup y ≠ _; rw [k]; decide)] at q
      exact q
  · exact e0.hok.fresh (Nat.le_of_lt (x.above y c (PySem.mem_of_lookup h)))
  · unfold start
    show _ = N.length
    rw [List.length_append, List.length_map, List.length_replicate]
    omega
theorem fn_of {CX : CXT} {P : Program} {w : World} {K : PySem.W.Frag} {mg : Str → Option Value} {base : Heap} {k : Nat} {f : Addr} {name qual : Str} {params : Arguments} {body : List Stmt} {scope : Scope} {dV kV doc pm cdv ct oc : Value} {an od : Option Addr}
    {osl : Array (Option Value)} {N ps : List Str} {sp : Sp} (lk : K.lookup f = some ⟨oc, od, .func (PySem.W.fnOf name qual params body scope dV kV doc pm an cdv ct), osl⟩) (hcd : PySem.W.codeIn K cdv qual = true) (S : FnScope N ps scope)
    (len : ∀ vs H Q E, sp vs H Q E → vs.length = ps.length)
    (hbody : ∀ (A : Around) (outer : List Env) (s : Shared) (H : Hp) (vs : List V) (Q : VK) (E : XK), Room k (A.deeper (envOfC qual scope s.heap.objs.size f cdv)) → sp vs H Q E →
      ∃ t, PSs (cxOf CX P w K mg base N qual scope f cdv A outer s H E) body t ∧ t { nx := fun _ H' => Q .non H', rt := Q } (start N vs) H) :
    FnOk P w K mg base CX (k + 1) f (PySem.W.fnOf name qual params body scope dV kV doc pm an cdv ct) ps sp := by
  refine ⟨len, fun A outer s H args us vs Q E hr e0 hb r hsp => ?_⟩
  have hl := len _ _ _ _ hsp
  have KX : K.In s.heap := e0.mod.kin.keeps fun b o e => (e0.bs b o e).1
  have lim : s.heap.NoLimit := e0.mod.nolimit.keeps fun b o e => (e0.bs b o e).1
  have hkind : ∀ y ∈ ps.zip us, scope.names.lookup y.1 = some .local ∨ (scope.names.lookup y.1 = some .cell ∧ ((cellsFrom (s.heap.objs.size + 1) scope.names []).lookup y.1).isSome = true) := fun ⟨n, v⟩ hy => by
    rcases S.par n (List.of_mem_zip hy).1 with q | q
    · exact .inl q
    · exact .inr ⟨q, PySem.W.cellsFrom_some _ _ _ (.inl q)⟩
  refine codeAny_call_function hr.depth (KX _ _ lk) rfl S.co S.gen rfl (PySem.W.codeRec_of KX hcd) (hb _ _ _ _ ?_)
  refine wpAny_newFunctionEnv_cells S.kind hkind fun env he s1 x => ?_
  subst he
  refine ⟨lim.keeps x.toInCall.keep, codeAny_func ?_⟩
  obtain ⟨t, ht, hq⟩ := hbody A outer s H vs Q E (hr.deeper _) hsp
  have I : Inv (cxOf CX P w K mg base N qual scope f cdv A outer s H E) [] (start N vs) H s1 := inv_start S hr.hd e0 hl r x
  refine wpAny_mono (ht [] s1 (start N vs) H _ I hq) (fun fl s' hs => ?_) fun e s' hs => hs
  have fin : ∀ {σ' : St} {H' : Hp} {v : V} {u : Value}, Inv (cxOf CX P w K mg base N qual scope f cdv A outer s H E) [] σ' H' s' → RelV v u → Q v H' → CE outer P w H s Q u s' :=
    fun {σ' H' v u} J rv q => ⟨v, H', J.os, J.bare, J.base, J.hok, rv, q⟩
  cases fl with
  | ret u =>
    obtain ⟨v, σ', H', J, rv, q⟩ := hs
    exact fin J rv q
  | next =>
    obtain ⟨σ', H', J, q⟩ := hs
    exact fin (v := V.non) (u := Value.none) J rfl q
  | brk =>
    obtain ⟨_, _, _, q⟩ := hs
    exact False.elim q
  | cont =>
    obtain ⟨_, _, _, q⟩ := hs
    exact False.elim q
end L2
namespace L2
open PySem PySem.Spec PyProof.Rows
section
variable {X : Cx} {x : Str} {p pos : Pos} {e : Expr} {es : List Expr} {t : TA} {id T : String} {r : List V → Hp → VK → Prop}
def tCB (r : List V → Hp → VK → Prop) (t : TA) : TE := fun σ H Q => t σ H fun vs H1 => r vs H1 Q
theorem pe_callB (hc : CallR X (.builtin id) r) (hg : Gl X x) (hm : X.mg x = none) (hv : bootBuiltins x = some (.builtin id)) (ha : PA X (e :: es) t) (hn : x ≠ "__name__" := by decide) (hdb : (x == ("__debug__" : Str)) = false := by decide)
    (he : starEach (e :: es) X.env = (false, eval e X.env) :: starEach es X.env := by rfl) (hpl : (backTo pos (starEach es X.env)).any (·.1) = false := by rfl) : PE X (.Call (.Name x p) (e :: es) [] pos) (tCB r t) := by
  intro pins s σ H Q I h
  refine wpAny_Call_Name_kw (ld_blt I hg hm hv ?_ hn hdb)
  exact PyProof.Rows.callWith_builtin1 (thn (ha pos pins s σ H _ I h) fun us s1 ⟨vs, H1, I1, r1, q1⟩ => hc pins s1 σ H1 vs us Q I1 r1 q1) he hpl
theorem pe_callTy (hc : CallR X (.type T) r) (hg : Gl X x) (hm : X.mg x = none) (hv : bootBuiltins x = some (.type T)) (ha : PA X (e :: es) t) (hn : x ≠ "__name__" := by decide) (hdb : (x == ("__debug__" : Str)) = false := by decide)
    (he : starEach (e :: es) X.env = (false, eval e X.env) :: starEach es X.env := by rfl) (hpl : (backTo pos (starEach es X.env)).any (·.1) = false := by rfl) : PE X (.Call (.Name x p) (e :: es) [] pos) (tCB r t) := by
  intro pins s σ H Q I h
  refine wpAny_Call_Name_kw (ld_blt I hg hm hv ?_ hn hdb)
  exact PyProof.Rows.callWith_type1 (thn (ha pos pins s σ H _ I h) fun us s1 ⟨vs, H1, I1, r1, q1⟩ => hc pins s1 σ H1 vs us Q I1 r1 q1) he hpl
end
end L2
namespace HT
open PySem PyProof.Rows
section
open PySem.SeqAt
open PySem.AutoSeq1 (wpAny_loadPart')
open PySem.MeetsSeq PySem.MeetsSeq2 PySem.MeetsSeq3
end
section
variable {prog : Program} {w : World} {A : Around} {E : Value → Shared → Prop} {s : Shared}
def sIx (n d : Nat) : Option Int → Nat
  | none => d
  | some v => if v < 0 then (v + (n : Int)).toNat else min v.toNat n
end
end HT
namespace L2
open PySem PySem.Spec PyProof.Rows
abbrev TO := St → Hp → (Option Int → Hp → Prop) → Prop
def PO (X : Cx) (e : Option Expr) (t : TO) : Prop :=
  ∀ (pins : List (Addr × Obj)) (s : Shared) (σ : St) (H : Hp) (Q : Option Int → Hp → Prop), Inv X pins σ H s → t σ H Q →
    wpAny (model X.prog X.w) X.A (evalPart e X.env) (fun u s' => ∃ o H', Inv X pins σ H' s' ∧ IsPart u o ∧ Q o H') X.xe s
def tNoPart : TO := fun _ H Q => Q none H
def tPart (t : TE) : TO := fun σ H Q => t σ H fun x H1 => ∃ i, x = .int i ∧ Q (some i) H1
section
variable {X : Cx} {e : Expr} {te : TE} {lo hi : Option Expr} {tl th : TO} {pos p2 : Pos}
theorem po_none : PO X none tNoPart := by
  intro pins s σ H Q I h
  rw [evalPart_none]
  exact wpAny_pure ⟨none, H, I, .none, h⟩
theorem po_some (h : PE X e te) : PO X (some e) (tPart te) := by
  intro pins s σ H Q I hw
  rw [evalPart_some]
  refine thn (h pins s σ H _ I hw) fun u s1 ⟨x, H1, I1, r1, q1⟩ => ?_
  obtain ⟨i, rfl, q⟩ := q1
  obtain ⟨t, rfl⟩ := r1
  exact ⟨some i, H1, I1, .int i t, q⟩
def SlR (X : Cx) (r : V → Option Int → Option Int → Hp → VK → Prop) : Prop :=
  ∀ (pins : List (Addr × Obj)) (s : Shared) (σ : St) (H : Hp) (x : V) (v vl vu : Value) (lo hi : Option Int) (sl : Addr) (Q : VK), Inv X pins σ H s → RelV x v → s.heap.IsSliceOf sl vl vu .none → IsPart vl lo → IsPart vu hi → r x lo hi H Q →
    ∃ T id, typeLookup (.type T) "__getitem__" = pure (some (.builtin id)) ∧ s.TypeIs v T ∧ wpAny (model X.prog X.w) X.A (getItem v (.ref sl)) (EP X pins σ Q) X.xe s
def tSl (r : V → Option Int → Option Int → Hp → VK → Prop) (te : TE) (tl th : TO) : TE := fun σ H Q => te σ H fun x H1 => tl σ H1 fun l H2 => th σ H2 fun u H3 => r x l u H3 Q
theorem pe_slice {r : V → Option Int → Option Int → Hp → VK → Prop} (hr : SlR X r) (he : PE X e te) (hl : PO X lo tl) (hu : PO X hi th) : PE X (.Subscript e (.Slice lo hi none p2) pos) (tSl r te tl th) := by
  intro pins s σ H Q I h
  refine Subscript_ (thn (he pins s σ H _ I h) fun v s1 ⟨x, H1, I1, r1, q1⟩ => ?_)
  refine wpAny_Slice (thn (hl pins s1 σ H1 _ I1 q1) fun vl s2 ⟨l, H2, I2, pl, q2⟩ => thn (hu pins s2 σ H2 _ I2 q2) fun vu s3 ⟨u, H3, I3, pu, q3⟩ => ?_)
  rw [evalPart_none]
  refine wpAny_pure ?_
  have I4 : Inv X pins σ H3 { s3 with heap := s3.heap.push { cls := .type "slice", data := .fields #[vl, vu, .none] } } := I3.kept (t' := s3.toks) fun b ob q => Heap.get?_push_of_some _ q
  obtain ⟨T, id, hT, ht, hg⟩ := hr pins { s3 with heap := s3.heap.push { cls := .type "slice", data := .fields #[vl, vu, .none] } } σ H3 x v vl vu l u s3.heap.objs.size Q I4 r1 (Heap.IsSliceOf.new ..) pl pu q3
  show wpAny (model X.prog X.w) X.A (subscriptTail e (.Slice lo hi none p2) v (.ref s3.heap.objs.size)) (EP X pins σ Q) X.xe { s3 with heap := s3.heap.push { cls := .type "slice", data := .fields #[vl, vu, .none] } }
  exact tail_any (ops := [.ref s3.heap.objs.size, v]) ht hT hg (by with_unfolding_all rfl)
def cutV (xs : List V) (lo hi : Option Int) : List V := (xs.drop (HT.sIx xs.length 0 lo)).take (HT.sIx xs.length xs.length hi - HT.sIx xs.length 0 lo)
theorem cutV_length (xs : List V) (lo hi : Option Int) : (cutV xs lo hi).length ≤ xs.length := by
  unfold cutV
  rw [List.length_take, List.length_drop]
  omega
end
end L2
namespace L2
open PySem PySem.Spec PyProof.Rows
def ixN (n : Nat) (i : Int) : Option Nat := if 0 ≤ i then (if i < n then some i.toNat else none) else if -(n : Int) ≤ i then some (i + n).toNat else none
def atI {α : Type} (xs : List α) (i : Int) : Option α := (ixN xs.length i).bind fun j => xs[j]?
theorem ixN_seq {n : Nat} {i : Int} {j : Nat} (h : ixN n i = some j) : seqIndex? i n = some j ∧ j < n ∧ -(n : Int) ≤ i ∧ i < n := by
  unfold ixN at h
  by_cases h0 : 0 ≤ i
  · rw [if_pos h0] at h
    by_cases h1 : i < n
    · rw [if_pos h1] at h
      have e : i.toNat = j := Option.some.inj h
      exact ⟨by rw [seqIndex_of h0 h1, e], by omega, by omega, h1⟩
    · rw [if_neg h1] at h; cases h
  · rw [if_neg h0] at h
    by_cases h1 : -(n : Int) ≤ i
    · rw [if_pos h1] at h
      have e : (i + n).toNat = j := Option.some.inj h
      exact ⟨by rw [seqIndex_neg (by omega) h1, e], by omega, h1, by omega⟩
    · rw [if_neg h1] at h; cases h
theorem atI_get {α : Type} {xs : List α} {i : Int} {v : α} (h : atI xs i = some v) : ∃ j, seqIndex? i xs.length = some j ∧ xs[j]? = some v ∧ j < xs.length ∧ -(xs.length : Int) ≤ i ∧ i < xs.length := by
  unfold atI at h
  cases e : ixN xs.length i with
  | none => rw [e] at h; cases h
  | some j =>
    rw [e] at h
    obtain ⟨h1, h2, h3, h4⟩ := ixN_seq e
    exact ⟨j, h1, h, h2, h3, h4⟩
theorem atI_nat {α : Type} {xs : List α} {j : Nat} {v : α} (h : xs[j]? = some v) : atI xs (j : Int) = some v := by
  have hj : j < xs.length := (List.getElem?_eq_some_iff.mp h).1
  have e : ixN xs.length (j : Int) = some j := by
    unfold ixN
    rw [if_pos (by omega), if_pos (by omega)]; simp
  unfold atI; rw [e]; exact h
theorem atI_last {α : Type} (xs : List α) (v : α) : atI (xs ++ [v]) (-1) = some v := by
  have hl : (xs ++ [v]).length = xs.length + 1 := by simp
  have e : ixN (xs ++ [v]).length (-1) = some xs.length := by
    unfold ixN
    rw [hl, if_neg (by decide), if_pos (by omega)]
    congr 1
    omega
  unfold atI
  rw [e]
  show (xs ++ [v])[xs.length]? = some v
  simp
def PlainIx (b : Expr) : Prop := ∀ o i, subscripted b false o i = operate [o, i] (getItem o i)
def IxR (X : Cx) (r : R2) : Prop :=
  ∀ (value slice : Expr) (pins : List (Addr × Obj)) (s : Shared) (σ : St) (H : Hp) (x y : V) (v u : Value) (Q : VK), Inv X pins σ H s → RelV x v → RelV y u → r x y H Q →
    subscripted slice false v u = operate [v, u] (getItem v u) → wpAny (model X.prog X.w) X.A (subscriptTail value slice v u) (EP X pins σ Q) X.xe s
def MtR (X : Cx) (id : String) (r : V → List V → Hp → VK → Prop) : Prop :=
  ∀ (pins : List (Addr × Obj)) (s : Shared) (σ : St) (H : Hp) (x : V) (xs : List V) (v : Value) (us : List Value) (Q : VK), Inv X pins σ H s → RelV x v → Vals xs us → r x xs H Q →
    wpAny (model X.prog X.w) X.A (call (.builtin id) (v :: us)) (EP X pins σ Q) X.xe s
section
variable {X : Cx} {a b : Expr} {ta tb : TE} {pos : Pos}
theorem pe_ix {r : R2} (hr : IxR X r) (ha : PE X a ta) (hb : PE X b tb) (hs : PlainIx b) : PE X (.Subscript a b pos) (tOp r ta tb) := by
  intro pins s σ H Q I h
  exact Subscript_ (binT ha hb I h fun v u s2 x y H2 I2 rx ry q => hr a b pins s2 σ H2 x y v u Q I2 rx ry q (hs _ _))
def rIxL (K : PySem.W.Frag) : R2 := fun x y H Q => ∃ p xs i v, x = .ref p ∧ y = .int i ∧ SqL K H p xs ∧ atI xs i = some v ∧ Q v H
def rIxT (K : PySem.W.Frag) : R2 := fun x y H Q => ∃ p xs i v, x = .ref p ∧ y = .int i ∧ SqT K H p xs ∧ atI xs i = some v ∧ Q v H
theorem ix_list : IxR X (rIxL X.K) := by
  intro value slice pins s σ H x y v u Q I rx ry h hs
  obtain ⟨p, xs, i, z, rfl, rfl, hq, he, q⟩ := h
  cases rx
  obtain ⟨t, rfl⟩ := ry
  obtain ⟨its, r, pl, hz⟩ := I.list hq
  obtain ⟨j, h1, h2, h3, h4, h5⟩ := atI_get he
  obtain ⟨w, ew, rw'⟩ := r.get h2
  have hl := r.length
  have hn := line63
  have fin : EP X pins σ Q w s := ⟨z, H, I, rw', q⟩
  by_cases h0 : 0 ≤ i
  · have hj : i.toNat = j := by
      rw [seqIndex_of h0 h5] at h1
      exact Option.some.inj h1
    exact item_listR pl.isList h0 (by omega) (by rw [hj]; simpa using ew) fin hs
  · have hj : (i + (its.toArray.size : Int)).toNat = j := by
      rw [seqIndex_neg (by omega) h4] at h1
      rw [List.size_toArray, ← hl]
      exact Option.some.inj h1
    exact subscriptTail_builtinR (x := w) pl.isList.typeIs slot_list_getitem.lookup
      (wpAny_getItem_list_neg (Q := fun r s' => r = w ∧ EP X pins σ Q r s') pl.isList (by omega) (by rw [List.size_toArray] <;> omega) (by omega) (by rw [hj]; simpa using ew) ⟨rfl, fin⟩) hs
theorem ix_tup : IxR X (rIxT X.K) := by
  intro value slice pins s σ H x y v u Q I rx ry h hs
  obtain ⟨p, xs, i, z, rfl, rfl, hq, he, q⟩ := h
  cases rx
  obtain ⟨t, rfl⟩ := ry
  obtain ⟨its, r, pl, hz⟩ := I.tuple hq
  obtain ⟨j, h1, h2, h3, h4, h5⟩ := atI_get he
  obtain ⟨w, ew, rw'⟩ := r.get h2
  have hl := r.length
  have hn := line63
  have fin : EP X pins σ Q w s := ⟨z, H, I, rw', q⟩
  exact subscriptTail_builtinR (x := w) pl.typeIs slot_tuple_getitem.lookup
    (getItem_tuple (j := j) (Q := fun r s' => r = w ∧ EP X pins σ Q r s') pl (by omega) (by omega) (by rw [List.size_toArray, ← hl]; exact h1) (by simpa using ew) ⟨rfl, fin⟩) hs
theorem Inv.lst {pins : List (Addr × Obj)} {σ : St} {H : Hp} {s : Shared} {p : Addr} {xs : List V} (I : Inv X pins σ H s) (h : H p = some (.lst xs)) :
    ∃ (its : List Value) (n : Nat), Vals xs its ∧ s.heap.get? p = some { cls := .type "list", data := .seq its.toArray n } ∧ xs.length ≤ sizeLine := by
  obtain ⟨z, its, n, r, e⟩ := I.hok p _ h
  exact ⟨its, n, r, e, z⟩
theorem slice_bounds (lo hi : Option Int) (n : Nat) : (sliceBounds lo hi none n).1 = ((HT.sIx n 0 lo : Nat) : Int) ∧ (sliceBounds lo hi none n).2.1 = ((HT.sIx n n hi : Nat) : Int) ∧ (sliceBounds lo hi none n).2.2 = 1 := by
  refine ⟨?_, ?_, rfl⟩
  · cases lo with
    | none => simp [sliceBounds, HT.sIx]
    | some i =>
      simp only [sliceBounds, HT.sIx, Option.getD_none, show (1 : Int) > 0 by decide, if_true]
      by_cases h : i < 0
      · simp only [h, if_true] <;> omega
      · simp only [h, if_false] <;> omega
  · cases hi with
    | none => simp [sliceBounds, HT.sIx]
    | some i =>
      simp only [sliceBounds, HT.sIx, Option.getD_none, show (1 : Int) > 0 by decide, if_true]
      by_cases h : i < 0
      · simp only [h, if_true] <;> omega
      · simp only [h, if_false] <;> omega
theorem slicePick_cut (its : List Value) (lo hi : Option Int) : slicePick its.toArray lo hi none = ((its.drop (HT.sIx its.length 0 lo)).take (HT.sIx its.length its.length hi - HT.sIx its.length 0 lo)).toArray := by
  obtain ⟨h1, h2, h3⟩ := slice_bounds lo hi its.toArray.size
  unfold slicePick
  rw [h1, h2, h3]
  simp only [sliceRange_one, pick_run, List.size_toArray] <;> rfl
def rSlL (K : PySem.W.Frag) : V → Option Int → Option Int → Hp → VK → Prop := fun x lo hi H Q => ∃ a xs, x = .ref a ∧ SqL K H a xs ∧ ∀ p, H p = none → Q (.ref p) (upd H p (.lst (cutV xs lo hi)))
theorem sl_list : SlR X (rSlL X.K) := by
  intro pins s σ H x v vl vu lo hi sl Q I rx hs pl pu h
  obtain ⟨a, xs, rfl, hx, q⟩ := h
  cases rx
  obtain ⟨its, r, ht, hz⟩ := I.list hx
  have hlen := r.length
  refine ⟨"list", _, slot_list_getitem.lookup, ht.isList.typeIs, ?_⟩
  refine wpAny_getItem_list_slice ht.isList hs pl pu .none (by simp) ?_ (by rw [List.size_toArray] <;> omega)
  rw [slicePick_cut, ← hlen]
  refine ⟨.ref s.heap.objs.size, _, I.laid (t' := s.toks) (o := .lst (cutV xs lo hi)) (fun b ob q => Heap.get?_push_of_some _ q) (Nat.le_refl _) ?_, rfl, q _ (I.hok.fresh (Nat.le_refl _))⟩
  exact ⟨Nat.le_trans (cutV_length xs lo hi) hz, _, 0, (r.drop (HT.sIx xs.length 0 lo)).take (HT.sIx xs.length xs.length hi - HT.sIx xs.length 0 lo), Heap.get?_push_size _ rfl⟩
def flatV : V → Bool
  | .non => true
  | .bl _ => true
  | .int _ => true
  | .str _ => true
  | _ => false
def eqV : V → V → Bool
  | .non, .non => true
  | .bl a, .bl b => a == b
  | .bl a, .int b => (if a then 1 else 0) == b
  | .int a, .bl b => a == (if b then 1 else 0)
  | .int a, .int b => a == b
  | .str a, .str b => a == b
  | _, _ => false
theorem eqAt_V {A : Around} {s : Shared} {y x : V} {u v : Value} (ry : RelV y u) (rx : RelV x v) (fy : flatV y = true) (fx : flatV x = true) : SeqAt.EqAt A s u v (eqV y x) := by
  cases y with
  | non =>
    cases ry
    cases x with
    | non => cases rx; exact SeqAt.EqAt.same _
    | bl b => cases rx; exact SeqAt.EqAt.none_bool b
    | int b => obtain ⟨t, rfl⟩ := rx; exact SeqAt.EqAt.none_int b t
    | str b => obtain ⟨t, rfl⟩ := rx; exact SeqAt.EqAt.none_str b t
    | _ => exact absurd (show false = true from fx) Bool.false_ne_true
  | bl a =>
    cases ry
    cases x with
    | non => cases rx; exact SeqAt.EqAt.bool_none a
    | bl b => cases rx; exact SeqAt.EqAt.bool_bool a b
    | int b => obtain ⟨t, rfl⟩ := rx; exact SeqAt.EqAt.bool_int a b t
    | str b => obtain ⟨t, rfl⟩ := rx; exact SeqAt.EqAt.bool_str a b t
    | _ => exact absurd (show false = true from fx) Bool.false_ne_true
  | int a =>
    obtain ⟨t', rfl⟩ := ry
    cases x with
    | non => cases rx; exact SeqAt.EqAt.int_none a t'
    | bl b => cases rx; exact SeqAt.EqAt.int_bool a t' b
    | int b => obtain ⟨t, rfl⟩ := rx; exact SeqAt.EqAt.int_int a t' b t
    | str b => obtain ⟨t, rfl⟩ := rx; exact SeqAt.EqAt.int_str a t' b t
    | _ => exact absurd (show false = true from fx) Bool.false_ne_true
  | str a =>
    obtain ⟨t', rfl⟩ := ry
    cases x with
    | non => cases rx; exact SeqAt.EqAt.str_none a t'
    | bl b => cases rx; exact SeqAt.EqAt.str_bool a t' b
    | int b => obtain ⟨t, rfl⟩ := rx; exact SeqAt.EqAt.str_int a t' b t
    | str b => obtain ⟨t, rfl⟩ := rx; exact SeqAt.EqAt.str_str a t' b t
    | _ => exact absurd (show false = true from fx) Bool.false_ne_true
  | _ => exact absurd (show false = true from fy) Bool.false_ne_true
def eqU (x : V) (u : Value) : Bool := match u with
  | .none => eqV .non x
  | .bool b => eqV (.bl b) x
  | .int i _ => eqV (.int i) x
  | .str z _ => eqV (.str z) x
  | _ => false
theorem eqU_of {x y : V} {u : Value} (r : RelV y u) (f : flatV y = true) : eqU x u = eqV y x := by
  cases y with
  | non => cases r; rfl
  | bl b => cases r; rfl
  | int i => obtain ⟨t, rfl⟩ := r; rfl
  | str z => obtain ⟨t, rfl⟩ := r; rfl
  | _ => exact absurd (show false = true from f) Bool.false_ne_true
theorem any_eqU {x : V} : ∀ {xs : List V} {us : List Value}, Vals xs us → xs.all flatV = true → us.any (eqU x) = xs.any fun y => eqV y x
  | _, _, .nil, _ => rfl
  | y :: xs, u :: us, .cons r t, f => by
    rw [List.all_cons, Bool.and_eq_true] at f
    rw [List.any_cons, List.any_cons, eqU_of r f.1, any_eqU t f.2]
theorem mem_eqAt {A : Around} {s : Shared} {x : V} {v : Value} (rx : RelV x v) (fx : flatV x = true) : ∀ {xs : List V} {us : List Value}, Vals xs us → xs.all flatV = true → ∀ u ∈ us, SeqAt.EqAt A s u v (eqU x u)
  | _, _, .nil, _ => fun u hu => by cases hu
  | y :: xs, u :: us, .cons r t, f => fun u' hu => by
    rw [List.all_cons, Bool.and_eq_true] at f
    rcases List.mem_cons.mp hu with rfl | hu
    · rw [eqU_of r f.1]; exact eqAt_V r rx f.1 fx
    · exact mem_eqAt rx fx t f.2 u' hu
def inV (x : V) (xs : List V) : Bool := xs.any fun y => eqV y x
def rIn (K : PySem.W.Frag) (neg : Bool) : R2 := fun x y H Q => ∃ p xs, y = .ref p ∧ (SqL K H p xs ∨ SqT K H p xs) ∧ flatV x = true ∧ xs.all flatV = true ∧ Q (.bl (if neg then !inV x xs else inV x xs)) H
theorem op_notIn_seq : OpR X (compareOp .NotIn) (rIn X.K true) := by
  intro pins s σ H x y v u Q I rx ry h
  obtain ⟨p, xs, rfl, hq, fx, fs, q⟩ := h
  cases ry
  rcases hq with hq | hq
  · obtain ⟨its, r, pl, hz⟩ := I.list hq
    refine SeqAt.notIn_listAt (eqU x) pl.isList (fun w hw => mem_eqAt rx fx r fs w (by simpa using hw)) ⟨.bl _, H, I, rfl, ?_⟩
    rw [show its.toArray.any (eqU x) = its.any (eqU x) by simp, any_eqU r fs]
    exact q
  · obtain ⟨its, r, pl, hz⟩ := I.tuple hq
    refine SeqAt.notIn_tupleAt (eqU x) pl (fun w hw => mem_eqAt rx fx r fs w (by simpa using hw)) ⟨.bl _, H, I, rfl, ?_⟩
    rw [show its.toArray.any (eqU x) = its.any (eqU x) by simp, any_eqU r fs]
    exact q
theorem call_len_seq : CallR X (.builtin "len") (fun xs H Q => ∃ p ys, xs = [.ref p] ∧ (SqL X.K H p ys ∨ SqT X.K H p ys) ∧ Q (.int ys.length) H) := by
  intro pins s σ H xs us Q I r h
  obtain ⟨p, ys, rfl, hq, q⟩ := h
  obtain ⟨u, rfl, rx⟩ := vals1 r
  cases rx
  have hn := line63
  rcases hq with hq | hq
  · obtain ⟨its, r', pl, hz⟩ := I.list hq
    have hlen := r'.length
    exact Calls.call_len_list pl.isList (by simp only [List.size_toArray] <;> omega) ⟨.int ys.length, H, I.tok _, ⟨s.toks + 1, by rw [List.size_toArray, hlen]⟩, q⟩
  · obtain ⟨its, r', pl, hz⟩ := I.tuple hq
    have hlen := r'.length
    exact len_tuple pl (by simp only [List.size_toArray] <;> omega) ⟨.int ys.length, H, I.tok _, ⟨s.toks + 1, by rw [List.size_toArray, hlen]⟩, q⟩
theorem call_len_str : CallR X (.builtin "len") (fun xs H Q => ∃ z, xs = [.str z] ∧ z.length ≤ sizeLine ∧ Q (.int z.length) H) := by
  intro pins s σ H xs us Q I r h
  obtain ⟨z, rfl, hz, q⟩ := h
  obtain ⟨u, rfl, t, rfl⟩ := vals1 r
  have hn := line63
  exact len_str (by omega) ⟨.int z.length, H, I.tok _, ⟨_, rfl⟩, q⟩
def tyV (K : PySem.W.Frag) (T : String) (x : V) (H : Hp) : Prop := match x with
  | .str _ => T = "str"
  | .int _ => T = "int"
  | .ref p => (T = "list" ∧ ∃ xs, SqL K H p xs) ∨ (T = "tuple" ∧ ∃ o, K.lookup p = some o ∧ o.cls = .type "tuple" ∧ o.dict = none) ∨
      (T = "dict" ∧ ((∃ kvs, H p = some (.dK kvs)) ∨ ∃ kvs, H p = some (.dT kvs))) ∨ (T = "set" ∧ ∃ S n, H p = some (.set S n))
  | _ => False
theorem tyV_is {pins : List (Addr × Obj)} {σ : St} {H : Hp} {s : Shared} {T : String} {x : V} {v : Value} (I : Inv X pins σ H s) (r : RelV x v) (ty : tyV X.K T x H) :
    s.TypeIs v T ∧ ∀ a, v = .ref a → ∃ ob, s.heap.get? a = some ob ∧ ob.dict = none := by
  cases x with
  | str z =>
    obtain ⟨t, rfl⟩ := r
    cases (show T = "str" from ty)
    exact ⟨typeIs_str s z t, fun _ e => nomatch e⟩
  | int i =>
    obtain ⟨t, rfl⟩ := r
    cases (show T = "int" from ty)
    exact ⟨typeIs_int s i t, fun _ e => nomatch e⟩
  | ref p =>
    cases r
    rcases ty with ⟨rfl, xs, hq⟩ | ⟨rfl, o, hk, hc, hd⟩ | ⟨rfl, hk⟩ | ⟨rfl, S, n, hk⟩
    · obtain ⟨its, _, pl, _⟩ := I.list hq
      refine ⟨pl.isList.typeIs, fun a e => ?_⟩
      cases e
      obtain ⟨o, n, e, c, hd, _⟩ := pl
      exact ⟨o, e, hd⟩
    · refine ⟨⟨o, I.kIn p o hk, hc⟩, fun a e => ?_⟩
      cases e
      exact ⟨o, I.kIn _ o hk, hd⟩
    · have z : ∃ o, s.heap.get? p = some o ∧ o.ExactDict := by
        rcases hk with ⟨kvs, hk⟩ | ⟨kvs, hk⟩
        · obtain ⟨_, _, _, _, o, _, _, e, ex, _⟩ := I.hok p _ hk
          exact ⟨o, e, ex⟩
        · obtain ⟨_, _, _, _, o, _, _, e, ex, _⟩ := I.hok p _ hk
          exact ⟨o, e, ex⟩
      obtain ⟨o, e, ex⟩ := z
      refine ⟨⟨o, e, ex.1⟩, fun a e2 => ?_⟩
      cases e2
      exact ⟨o, e, ex.2.1⟩
    · obtain ⟨o, _, _, _, e, ex, _⟩ := I.hok p _ hk
      refine ⟨⟨o, e, ex.1⟩, fun a e2 => ?_⟩
      cases e2
      exact ⟨o, e, ex.2.1⟩
  | _ => exact False.elim ty
def tBM (K : PySem.W.Frag) (T : String) (r : V → List V → Hp → VK → Prop) (to : TE) (t : TA) : TE := fun σ H Q => to σ H fun x H1 => tyV K T x H1 ∧ t σ H1 fun xs H2 => r x xs H2 Q
variable {o e : Expr} {es : List Expr} {to : TE} {t : TA} {name : Str} {apos cpos : Pos} {T id : String} {r : V → List V → Hp → VK → Prop}
theorem pe_bm (pa : PlainAttrs T) (slot : Slot T name id) (hty : typeOf (.builtin id) = pure (.type "method_descriptor")) (hm : MtR X id r) (ho : PE X o to) (ha : PA X (e :: es) t)
    (hbase : attributeBase o name X.env (eval o X.env) = eval o X.env := by rfl)
    (hfew : ((backTo cpos (starEach (e :: es) X.env)).all (fun x => !x.1) && (backToKw cpos (keywordEach [] X.env)).all (fun x => x.1.isSome)
      && decide ((e :: es).length + ([] : List Keyword).length + (if ([] : List Keyword).isEmpty then 0 else 1) < 30)) = true := by rfl)
    (hline : (apos.endLine == cpos.line) = true := by rfl) (hs : starEach (e :: es) X.env = (false, eval e X.env) :: starEach es X.env := by rfl) (hplain : (backTo cpos (starEach es X.env)).any (·.1) = false := by rfl) :
    PE X (.Call (.Attribute o name apos) (e :: es) [] cpos) (tBM X.K T r to t) := by
  intro pins s σ H Q I h
  refine wpAny_Call_method_late hbase hfew hline rfl (thn (ho pins s σ H _ I h) fun v s1 ⟨x, H1, I1, r1, ty, q1⟩ => ?_)
  obtain ⟨h1, h2⟩ := tyV_is I1 r1 ty
  refine ⟨T, id, pa, slot, hty, h1, h2, ?_⟩
  have hA := ha cpos pins s1 σ H1 _ I1 q1
  rw [hs] at hA ⊢
  refine Calls.callWith_builtin (by show (false || (backTo cpos (starEach es X.env)).any (·.1)) = false; rw [hplain] <;> rfl) (Calls.evalArgs_plain ?_)
  exact thn hA fun us s2 ⟨vs, H2, I2, r2, q2⟩ => hm pins s2 σ H2 x vs v us Q I2 r1 r2 q2
/- xs.append(e), list.index on a module's tuple .. are MtR facts of 06m -/
end
end L2
namespace L2
open PySem PySem.Spec PyProof.Rows
def MtM (X : Cx) (id : String) (r : V → List V → Hp → VK → Prop) : Prop :=
  ∀ (pins : List (Addr × Obj)) (s : Shared) (σ : St) (H : Hp) (x : V) (xs : List V) (v : Value) (us : List Value) (Q : VK), Inv X pins σ H s → RelV x v → Vals xs us → r x xs H Q →
    wpAny (model X.prog X.w) X.A (call (.builtin id) (v :: us)) (EP X pins σ Q) X.xe s
theorem Vals.one : ∀ {x : V} {us : List Value}, Vals [x] us → ∃ u, us = [u] ∧ RelV x u
  | _, _, .cons r .nil => ⟨_, rfl, r⟩
section
variable {X : Cx} {pins : List (Addr × Obj)} {σ : St} {H : Hp} {s : Shared} {l b : Addr} {xs ys zs : List V}
theorem Inv.lset {its its' : List Value} {n : Nat} {f : Array Value → Array Value} {t' : Nat} (I : Inv X pins σ H s) (hH : H l = some (.lst xs))
    (e : s.heap.get? l = some { cls := .type "list", data := .seq its.toArray n }) (hf : f its.toArray = its'.toArray) (hv : Vals ys its') (hz : ys.length ≤ sizeLine) :
    Inv X pins σ (upd H l (.lst ys)) { s with heap := s.heap.update l (Obj.mapSeq f), toks := t' } := by
  have q := PySem.IsL.update e f
  rw [hf] at q
  refine I.write (x := l) (e := l) (by rw [hH]; exact trivial) (.inl rfl) (fun b' u hb hu => (Heap.get?_update_other s.heap (Obj.mapSeq f) (Ne.symm hb)).trans hu) ⟨_, q⟩ ?_
  exact ⟨hz, its', _, hv, q⟩
theorem Inv.lnew {its : List Value} {t' : Nat} (I : Inv X pins σ H s) (hv : Vals ys its) (hz : ys.length ≤ sizeLine) :
    Inv X pins σ (upd H s.heap.objs.size (.lst ys)) { s with heap := s.heap.push { cls := .type "list", data := .seq its.toArray }, toks := t' } :=
  I.laid (fun _ _ q => Heap.get?_push_of_some _ q) (Nat.le_refl _) ⟨hz, its, 0, hv, Heap.get?_push_size _ rfl⟩
theorem Inv.fresh (I : Inv X pins σ H s) : H s.heap.objs.size = none := I.hok.fresh (Nat.le_refl _)
theorem Inv.lstM (I : Inv X pins σ H s) (hH : H l = some (.lst xs)) : xs.length ≤ sizeLine ∧ ∃ (its : List Value) (n : Nat), Vals xs its ∧ xs.length = its.length ∧ s.heap.get? l = some { cls := .type "list", data := .seq its.toArray n } := by
  obtain ⟨z, its, n, r, e⟩ := I.hok l _ hH
  exact ⟨z, its, n, r, r.length, e⟩
theorem notLongL {n : Nat} (h : n ≤ sizeLine) : Builtin.List.listTooLong n = false := by
  unfold Builtin.List.listTooLong
  exact decide_eq_false (by omega)
end
section
variable {X : Cx}
def rAppend : V → List V → Hp → VK → Prop := fun x vs H Q => ∃ l xs y, x = .ref l ∧ vs = [y] ∧ H l = some (.lst xs) ∧ xs.length < sizeLine ∧ Q .non (upd H l (.lst (xs ++ [y])))
theorem mt_append : MtM X "list.append" rAppend := by
  intro pins s σ H x vs v us Q I rx rv h
  obtain ⟨l, xs, y, rfl, rfl, hH, hz, q⟩ := h
  cases rx
  obtain ⟨u, rfl, ru⟩ := rv.one
  obtain ⟨z, its, n, r, hl, e⟩ := I.lstM hH
  refine call_meets F.slot_list_append ⟨_, e, rfl⟩ F.entry_list_append (F.args_list_append_2 _ _) (PySem.list_append l its.toArray n u (by rw [List.size_toArray]; omega)) ⟨e, ?_⟩
  refine ⟨.non, _, I.lset (its' := its ++ [u]) hH e (by simp) (r.append (.cons ru .nil)) ?_, rfl, q⟩
  rw [List.length_append, List.length_singleton]
  omega
def rExtend : V → List V → Hp → VK → Prop := fun x vs H Q => ∃ l b xs zs, x = .ref l ∧ vs = [.ref b] ∧ H l = some (.lst xs) ∧ H b = some (.lst zs) ∧ xs.length + zs.length ≤ sizeLine ∧ Q .non (upd H l (.lst (xs ++ zs)))
theorem mt_extend : MtM X "list.extend" rExtend := by
  intro pins s σ H x vs v us Q I rx rv h
  obtain ⟨l, b, xs, zs, rfl, rfl, hH, hB, hz, q⟩ := h
  cases rx
  obtain ⟨u, rfl, ru⟩ := rv.one
  cases ru
  obtain ⟨z, its, n, r, hl, e⟩ := I.lstM hH
  obtain ⟨z2, its2, n2, r2, hl2, e2⟩ := I.lstM hB
  have hsz : its.toArray.size + its2.toArray.size ≤ sizeLine := by rw [List.size_toArray, List.size_toArray]; omega
  have hlong : ¬ (!its.toArray.isEmpty && Builtin.List.listTooLong (its.toArray.size + its2.toArray.size)) = true := by
    rw [notLongL hsz, Bool.and_false]
    exact Bool.false_ne_true
  refine call_meets F.slot_list_extend ⟨_, e, rfl⟩ F.entry_list_extend (F.args_list_extend_2 _ _)
    (AutoSeq1.list_extend_list_list_0 l its.toArray n b its2.toArray n2 hlong (by rw [List.size_toArray]; omega) (by omega)) ⟨e, e2, ?_⟩
  refine ⟨.non, _, I.lset (its' := its ++ its2) hH e (by simp) (r.append r2) ?_, rfl, q⟩
  rw [List.length_append]
  omega
def rCat : R2 := fun x y H Q => ∃ l b xs zs, x = .ref l ∧ y = .ref b ∧ H l = some (.lst xs) ∧ H b = some (.lst zs) ∧ xs.length + zs.length ≤ sizeLine ∧ ∀ p, H p = none → Q (.ref p) (upd H p (.lst (xs ++ zs)))
theorem op_cat : OpR X (binaryOp .Add) rCat := by
  intro pins s σ H x y v u Q I rx ry h
  obtain ⟨l, b, xs, zs, rfl, rfl, hH, hB, hz, q⟩ := h
  cases rx
  cases ry
  obtain ⟨z, its, n, r, hl, e⟩ := I.lstM hH
  obtain ⟨z2, its2, n2, r2, hl2, e2⟩ := I.lstM hB
  refine PySem.P.add_list e e2 ?_ (by rw [List.size_toArray, List.size_toArray]; omega)
  have ea : its.toArray ++ its2.toArray = (its ++ its2).toArray := by simp
  rw [ea]
  exact ⟨.ref _, _, I.lnew (t' := s.toks) (r.append r2) (by rw [List.length_append]; omega), rfl, q _ I.fresh⟩
end
section
variable {prog : Program} {w : World} {A : Around} {E : Value → Shared → Prop} {s : Shared}
set_option maxRecDepth 100000 in
end
section
variable {X : Cx}
end
end L2
namespace L2
open PySem PySem.Spec PyProof.Rows
theorem Vals.ints : ∀ {ns : List Int} {us : List Value}, Vals (ns.map V.int) us → IntsAre us ns
  | [], us, h => by
    rw [List.map_nil] at h
    cases h
    exact IntsAre.nil
  | n :: ns, us, h => by
    rw [List.map_cons] at h
    cases h with
    | cons r t =>
      obtain ⟨k, rfl⟩ := r
      exact IntsAre.cons n k (Vals.ints t)
theorem vals_of_ints : ∀ {us : List Value} {ns : List Int}, IntsAre us ns → Vals (ns.map V.int) us
  | _, _, .nil => by rw [List.map_nil]; exact Paired.nil
  | _, _, .cons n t h => by rw [List.map_cons]; exact Paired.cons (show RelV (V.int n) (Value.int n t) from ⟨t, rfl⟩) (vals_of_ints h)
theorem Vals.ref1 {a : Addr} {us : List Value} (r : Vals [V.ref a] us) : us = [Value.ref a] := by
  cases r with
  | cons r t =>
    cases t
    cases r
    rfl
section
variable {prog : Program} {w : World} {A : Around} {E : Value → Shared → Prop} {s : Shared} {l : Addr} {its : List Value} {ns : List Int} {Q : Value → Shared → Prop}
theorem sum_raw (hh : A.handled = none) (hl : s.heap.IsList l its.toArray) (hi : IntsAre its ns)
    (h : ∀ h' tk t', (∀ b o, s.heap.get? b = some o → h'.get? b = some o) → Q (.int ns.sum t') { s with heap := h', toks := tk }) : wpAny (model prog w) A (call (.builtin "sum") [.ref l]) Q E s := by
  obtain ⟨xs, e⟩ := hi.allInts.items
  have hn : numsOf (intItems xs).toList = ns := by rw [← e]; exact hi.numsOf
  rw [nums_intItems] at hn
  rw [e] at hl
  refine PySem.sum_intListG hh hl fun h' tk t' hk => ?_
  have := h h' tk t' hk
  rw [preSum_eq, List.take_of_length_le (by simp), hn]; exact this
theorem max_raw (hh : A.handled = none) (hl : s.heap.IsList l its.toArray) (hi : IntsAre its ns) (hne : 0 < ns.length)
    (h : ∀ h' tk M t', (∀ b o, s.heap.get? b = some o → h'.get? b = some o) → M ∈ ns → (∀ a, a ∈ ns → a ≤ M) → Q (.int M t') { s with heap := h', toks := tk }) : wpAny (model prog w) A (call (.builtin "max") [.ref l]) Q E s := by
  obtain ⟨xs, e⟩ := hi.allInts.items
  have hn : numsOf (intItems xs).toList = ns := by rw [← e]; exact hi.numsOf
  rw [nums_intItems] at hn
  subst hn
  rw [e] at hl
  have hsz : 0 < xs.size := by simpa using hne
  refine PySem.max_intList hh hl hsz fun v h' tk hv hk => ?_
  obtain ⟨t, rfl⟩ := intItems_at hv
  obtain ⟨h1, h2⟩ := argBest_gt (numAt xs) (xs.size - 1)
  refine h h' tk _ t hk ?_ fun a ha => ?_
  · rw [numAt_eq]; exact PySem.getD_mem (by rw [List.length_map, Array.length_toList]; omega)
  · obtain ⟨j, hj, rfl⟩ := mem_getD ha
    rw [List.length_map, Array.length_toList] at hj
    rw [← numAt_eq]; exact h2 j (by omega)
theorem min_raw (hh : A.handled = none) (hl : s.heap.IsList l its.toArray) (hi : IntsAre its ns) (hne : 0 < ns.length)
    (h : ∀ h' tk M t', (∀ b o, s.heap.get? b = some o → h'.get? b = some o) → M ∈ ns → (∀ a, a ∈ ns → M ≤ a) → Q (.int M t') { s with heap := h', toks := tk }) : wpAny (model prog w) A (call (.builtin "min") [.ref l]) Q E s := by
  obtain ⟨xs, e⟩ := hi.allInts.items
  have hn : numsOf (intItems xs).toList = ns := by rw [← e]; exact hi.numsOf
  rw [nums_intItems] at hn
  subst hn
  rw [e] at hl
  have hsz : 0 < xs.size := by simpa using hne
  refine PySem.min_intList hh hl hsz fun v h' tk hv hk => ?_
  obtain ⟨t, rfl⟩ := intItems_at hv
  obtain ⟨h1, h2⟩ := argBest_lt (numAt xs) (xs.size - 1)
  refine h h' tk _ t hk ?_ fun a ha => ?_
  · rw [numAt_eq]; exact PySem.getD_mem (by rw [List.length_map, Array.length_toList]; omega)
  · obtain ⟨j, hj, rfl⟩ := mem_getD ha
    rw [List.length_map, Array.length_toList] at hj
    rw [← numAt_eq]; exact h2 j (by omega)
end
section
variable {X : Cx}
def rSum (K : PySem.W.Frag) : List V → Hp → VK → Prop := fun vs H Q => ∃ (a : Addr) (ns : List Int), vs = [V.ref a] ∧ SqL K H a (ns.map V.int) ∧ Q (.int ns.sum) H
def rMax (K : PySem.W.Frag) : List V → Hp → VK → Prop := fun vs H Q => ∃ (a : Addr) (ns : List Int), vs = [V.ref a] ∧ SqL K H a (ns.map V.int) ∧ 0 < ns.length ∧ ∀ m, m ∈ ns → (∀ y, y ∈ ns → y ≤ m) → Q (.int m) H
def rMin (K : PySem.W.Frag) : List V → Hp → VK → Prop := fun vs H Q => ∃ (a : Addr) (ns : List Int), vs = [V.ref a] ∧ SqL K H a (ns.map V.int) ∧ 0 < ns.length ∧ ∀ m, m ∈ ns → (∀ y, y ∈ ns → m ≤ y) → Q (.int m) H
theorem cr_sum (hc : X.calm = true) : CallR X (.builtin "sum") (rSum X.K) := by
  intro pins s σ H vs us Q I r h
  obtain ⟨a, ns, rfl, hs, q⟩ := h
  obtain ⟨its, rv, hl, _⟩ := I.list hs
  rw [Vals.ref1 r]
  exact sum_raw (I.ok.hd hc) hl.isList rv.ints fun h' tk t' hk => ⟨.int _, H, I.kept hk, ⟨_, rfl⟩, q⟩
theorem cr_max (hc : X.calm = true) : CallR X (.builtin "max") (rMax X.K) := by
  intro pins s σ H vs us Q I r h
  obtain ⟨a, ns, rfl, hs, hne, q⟩ := h
  obtain ⟨its, rv, hl, _⟩ := I.list hs
  rw [Vals.ref1 r]
  exact max_raw (I.ok.hd hc) hl.isList rv.ints hne fun h' tk m t' hk h1 h2 => ⟨.int _, H, I.kept hk, ⟨_, rfl⟩, q m h1 h2⟩
theorem cr_min (hc : X.calm = true) : CallR X (.builtin "min") (rMin X.K) := by
  intro pins s σ H vs us Q I r h
  obtain ⟨a, ns, rfl, hs, hne, q⟩ := h
  obtain ⟨its, rv, hl, _⟩ := I.list hs
  rw [Vals.ref1 r]
  exact min_raw (I.ok.hd hc) hl.isList rv.ints hne fun h' tk m t' hk h1 h2 => ⟨.int _, H, I.kept hk, ⟨_, rfl⟩, q m h1 h2⟩
def rSorted (K : PySem.W.Frag) : List V → Hp → VK → Prop := fun vs H Q => ∃ (a : Addr) (ns : List Int), vs = [V.ref a] ∧ SqL K H a (ns.map V.int) ∧ ns.length < 64 ∧
  ∀ (ns' : List Int) (p : Addr), ns'.Perm ns → ns'.Pairwise (· ≤ ·) → H p = none → Q (.ref p) (upd H p (.lst (ns'.map V.int)))
theorem small64 {n : Nat} (h : n < 64) : n ≤ sizeLine := by rw [sizeLine_eq]; omega
theorem cr_sorted : CallR X (.builtin "sorted") (rSorted X.K) := by
  intro pins s σ H vs us Q I r h
  obtain ⟨a, ns, rfl, hs, h64, q⟩ := h
  obtain ⟨its, rv, hl, _⟩ := I.list hs
  rw [Vals.ref1 r]
  have hi := rv.ints
  refine PyProof.Rows.sorted_ints hl.isList hi (by rw [hi.length]; exact h64) fun out ns' h1 h2 h3 => ?_
  obtain ⟨ep, he'⟩ := PyProof.Rows.sortedAll_at s.heap its out
  have hlen : (ns'.map V.int).length ≤ sizeLine := by rw [List.length_map, h2.length_eq]; exact small64 h64
  exact ⟨.ref _, upd H (s.heap.objs.size + 1) (.lst (ns'.map V.int)), I.laid (t' := s.toks) (fun _ _ => PyProof.Rows.sortedAll_old) (Nat.le_succ _) ⟨hlen, out.toList, ep, vals_of_ints h1, he'⟩, rfl, q ns' _ h2 h3 (I.hok.fresh (Nat.le_succ _))⟩
end
section
variable {X : Cx}
end
section
variable {X : Cx}
end
section
variable {X : Cx}
end
mutual
inductive Dp (K : PySem.W.Frag) (H : Hp) : V → PyData → Prop
  | non : Dp K H .non .none
  | bl (b : Bool) : Dp K H (.bl b) (.bool b)
  | int (i : Int) : Dp K H (.int i) (.int i)
  | str (x : Str) : Dp K H (.str x) (.str x)
  | lst {a : Addr} {xs : List V} {ds : List PyData} : SqL K H a xs → DpAll K H xs ds → Dp K H (.ref a) (.list ds)
  | tup {a : Addr} {xs : List V} {ds : List PyData} : SqT K H a xs → DpAll K H xs ds → Dp K H (.ref a) (.tuple ds)
inductive DpAll (K : PySem.W.Frag) (H : Hp) : List V → List PyData → Prop
  | nil : DpAll K H [] []
  | cons {v : V} {vs : List V} {d : PyData} {ds : List PyData} : Dp K H v d → DpAll K H vs ds → DpAll K H (v :: vs) (d :: ds)
end
section
variable {X : Cx} {pins : List (Addr × Obj)} {σ : St} {H : Hp} {s : Shared}
mutual
theorem Dp.reads (I : Inv X pins σ H s) : ∀ (d : PyData) (v : V) (u : Value), Dp X.K H v d → RelV v u → ∃ as, Reads s.heap u d as
  | .none, _, _, h, r => by
    cases h
    cases r
    exact ⟨_, Reads.none⟩
  | .bool b, _, _, h, r => by
    cases h
    cases r
    exact ⟨_, Reads.bool b⟩
  | .int i, _, _, h, r => by
    cases h
    obtain ⟨t, rfl⟩ := r
    exact ⟨_, Reads.int i t⟩
  | .str x, _, _, h, r => by
    cases h
    obtain ⟨t, rfl⟩ := r
    exact ⟨_, Reads.str x t⟩
  | .list ds, _, _, h, r => by
    cases h with
    | lst hs ha =>
      cases r
      obtain ⟨its, rv, ⟨o, n, ho, hc, _, hd⟩, _⟩ := I.list hs
      obtain ⟨as, hr⟩ := Dp.readsAll I ds _ its ha rv
      exact ⟨_, Reads.list ho hc hd hr⟩
  | .tuple ds, _, _, h, r => by
    cases h with
    | tup hs ha =>
      cases r
      obtain ⟨its, rv, ⟨o, ho, hc, n, hd⟩, _⟩ := I.tuple hs
      obtain ⟨as, hr⟩ := Dp.readsAll I ds _ its ha rv
      exact ⟨_, Reads.tuple ho hc hd hr⟩
  | .dict _, _, _, h, _ => by cases h
theorem Dp.readsAll (I : Inv X pins σ H s) : ∀ (ds : List PyData) (vs : List V) (us : List Value), DpAll X.K H vs ds → Vals vs us → ∃ as, ReadsAll s.heap us ds as
  | [], _, _, h, r => by
    cases h
    cases r
    exact ⟨_, ReadsAll.nil⟩
  | d :: ds, _, _, h, r => by
    cases h with
    | cons h1 h2 =>
      cases r with
      | cons r1 r2 =>
        obtain ⟨as, q1⟩ := Dp.reads I d _ _ h1 r1
        obtain ⟨bs, q2⟩ := Dp.readsAll I ds _ _ h2 r2
        exact ⟨_, ReadsAll.cons q1 q2⟩
end
end
section
variable {X : Cx}
end
end L2
namespace L2
open PySem PySem.Spec PyProof.Rows
abbrev CellAt (h : Heap) (c : Addr) (v : Option Value) : Prop := h.IsCell c v
def relS (scope sc : Scope) : Scope :=
  { scope with names := scope.names.map fun (n, k) => if (k == .free && sc.kind == .function && sc.names.lookup n == some .cell) then (n, .cell) else (n, k) }
def cloFrom (cells : List (Str × Addr)) : List (Str × NameKind) → List (Str × Addr) → List (Str × Addr)
  | [], acc => acc
  | (n, k) :: r, acc => if k == .free then cloFrom cells r ((n, (cells.lookup n).getD 0) :: acc) else cloFrom cells r acc
theorem closure_loop (env : Env) (f : Str × NameKind → List (Str × Addr) → Sem (ForInStep (List (Str × Addr))))
    (hf : ∀ n k c, f (n, k) c = if k == .free then (do let a ← cellOf env n; pure (.yield ((n, a) :: c))) else pure (.yield c)) :
    ∀ (names : List (Str × NameKind)) (acc : List (Str × Addr)), (∀ y ∈ names, y.2 = .free → ∃ c, env.cells.lookup y.1 = some c) → forIn names acc f = pure (cloFrom env.cells names acc)
  | [], acc, _ => by rw [List.forIn_nil]; rfl
  | (n, k) :: r, acc, h => by
    rw [List.forIn_cons, hf]
    have ih := fun acc => closure_loop env f hf r acc fun y hy => h y (List.mem_cons_of_mem _ hy)
    unfold cloFrom
    by_cases hk : (k == NameKind.free) = true
    · rw [if_pos hk, if_pos hk]
      obtain ⟨c, hc⟩ := h (n, k) List.mem_cons_self (by simpa using hk)
      have e : cellOf env n = pure c := by unfold cellOf; rw [hc]
      rw [e]
      have e2 : (env.cells.lookup n).getD 0 = c := by rw [hc]; rfl
      rw [e2]
      exact ih _
    · rw [if_neg hk, if_neg hk]
      exact ih _
theorem closure_ok {scope : Scope} {env : Env} (h : ∀ y ∈ scope.names, y.2 = .free → ∃ c, env.cells.lookup y.1 = some c) : closureFor scope env = pure (cloFrom env.cells scope.names []) := by
  simp only [closureFor]
  rw [closure_loop env _ (fun n k c => rfl) scope.names [] h]
  rfl
theorem mem_lookup {α : Type} : ∀ {l : List (Str × α)} {n : Str} {c : α}, (n, c) ∈ l → ∃ c', l.lookup n = some c'
  | (k, v) :: r, n, c, h => by
    rw [List.lookup_cons]
    cases hb : n == k with
    | true => exact ⟨_, rfl⟩
    | false =>
      rcases List.mem_cons.mp h with e | h
      · cases e; simp at hb
      · exact mem_lookup h
theorem cloFrom_mem {cells : List (Str × Addr)} : ∀ {names : List (Str × NameKind)} {acc : List (Str × Addr)} {n : Str} {c : Addr}, (n, c) ∈ cloFrom cells names acc → (n, c) ∈ acc ∨ ((n, .free) ∈ names ∧ c = (cells.lookup n).getD 0)
  | [], _, _, _, h => .inl h
  | (m, k) :: r, acc, n, c, h => by
    unfold cloFrom at h
    split at h
    · rename_i hk
      have hk : k = .free := by simpa using hk
      rcases cloFrom_mem h with h | ⟨h1, h2⟩
      · rcases List.mem_cons.mp h with e | h
        · cases e; exact .inr ⟨hk ▸ List.mem_cons_self, rfl⟩
        · exact .inl h
      · exact .inr ⟨List.mem_cons_of_mem _ h1, h2⟩
    · rcases cloFrom_mem h with h | ⟨h1, h2⟩
      · exact .inl h
      · exact .inr ⟨List.mem_cons_of_mem _ h1, h2⟩
theorem cloFrom_acc {cells : List (Str × Addr)} : ∀ {names : List (Str × NameKind)} {acc : List (Str × Addr)} {p : Str × Addr}, p ∈ acc → p ∈ cloFrom cells names acc
  | [], _, _, h => h
  | (m, k) :: r, acc, p, h => by
    unfold cloFrom
    split
    · exact cloFrom_acc (List.mem_cons_of_mem _ h)
    · exact cloFrom_acc h
theorem cloFrom_has {cells : List (Str × Addr)} : ∀ {names : List (Str × NameKind)} {acc : List (Str × Addr)} {n : Str}, (n, .free) ∈ names → (n, (cells.lookup n).getD 0) ∈ cloFrom cells names acc
  | (m, k) :: r, acc, n, h => by
    unfold cloFrom
    rcases List.mem_cons.mp h with e | h
    · cases e
      exact cloFrom_acc List.mem_cons_self
    · split
      · exact cloFrom_has h
      · exact cloFrom_has h
theorem cells_mem : ∀ {names : List (Str × NameKind)} {h : Heap} {acc : List (Str × Addr)} {x : Str} {c : Addr}, (x, c) ∈ cellsFrom h.objs.size names acc →
    (x, c) ∈ acc ∨ ((x, .cell) ∈ names ∧ h.objs.size ≤ c ∧ CellAt (pushCells h names) c none)
  | [], _, _, _, _, h => .inl h
  | (n, k) :: r, h, acc, x, c, hm => by
    unfold cellsFrom at hm
    unfold pushCells
    split at hm
    · rename_i hk
      rw [if_pos hk]
      have hk : k = .cell := by simpa using hk
      rw [← Heap.size_push h { cls := .type "cell", data := .cell none }] at hm
      rcases cells_mem hm with hm | ⟨h1, h2, h3⟩
      · rcases List.mem_cons.mp hm with e | hm
        · cases e
          exact .inr ⟨hk ▸ List.mem_cons_self, Nat.le_refl _, _, pushCells_keeps r _ _ _ (Heap.get?_push_size _ rfl), rfl⟩
        · exact .inl hm
      · rw [Heap.size_push] at h2
        exact .inr ⟨List.mem_cons_of_mem _ h1, Nat.le_of_succ_le h2, h3⟩
    · rename_i hk
      rw [if_neg hk]
      rcases cells_mem hm with hm | ⟨h1, h2, h3⟩
      · exact .inl hm
      · exact .inr ⟨List.mem_cons_of_mem _ h1, h2, h3⟩
theorem cells_acc : ∀ {names : List (Str × NameKind)} {n : Nat} {acc : List (Str × Addr)} {p : Str × Addr}, p ∈ acc → p ∈ cellsFrom n names acc
  | [], _, _, _, h => h
  | (m, k) :: r, n, acc, p, h => by
    unfold cellsFrom
    split
    · exact cells_acc (List.mem_cons_of_mem _ h)
    · exact cells_acc h
theorem cells_has : ∀ {names : List (Str × NameKind)} {n : Nat} {acc : List (Str × Addr)} {x : Str}, (x, .cell) ∈ names → ∃ c, (x, c) ∈ cellsFrom n names acc
  | (m, k) :: r, n, acc, x, h => by
    unfold cellsFrom
    rcases List.mem_cons.mp h with e | h
    · cases e
      exact ⟨n, cells_acc List.mem_cons_self⟩
    · split
      · exact cells_has h
      · exact cells_has h
theorem cells_inj : ∀ {names : List (Str × NameKind)} {h : Heap} {acc : List (Str × Addr)} {x y : Str} {c : Addr}, (∀ p ∈ acc, p.2 < h.objs.size) → (∀ x y c, (x, c) ∈ acc → (y, c) ∈ acc → x = y) →
    (x, c) ∈ cellsFrom h.objs.size names acc → (y, c) ∈ cellsFrom h.objs.size names acc → x = y
  | [], _, _, _, _, _, _, hi, h1, h2 => hi _ _ _ h1 h2
  | (n, k) :: r, h, acc, x, y, c, hl, hi, h1, h2 => by
    unfold cellsFrom at h1 h2
    split at h1
    · rename_i hk
      rw [if_pos hk] at h2
      rw [← Heap.size_push h { cls := .type "cell", data := .cell none }] at h1 h2
      refine cells_inj (h := h.push _) (fun p hp => ?_) (fun x y c a b => ?_) h1 h2
      · rw [Heap.size_push]
        rcases List.mem_cons.mp hp with rfl | hp
        · exact Nat.lt_succ_self _
        · exact Nat.lt_succ_of_lt (hl p hp)
      · rcases List.mem_cons.mp a with e | a <;> rcases List.mem_cons.mp b with e' | b
        · cases e; cases e'; rfl
        · cases e; exact absurd (hl _ b) (Nat.lt_irrefl _)
        · cases e'; exact absurd (hl _ a) (Nat.lt_irrefl _)
        · exact hi _ _ _ a b
    · rename_i hk
      rw [if_neg hk] at h2
      exact cells_inj hl hi h1 h2
theorem newEnv_comp {M : Model} {A : Around} {E : Value → Shared → Prop} {s : Shared} {scope : Scope} {globals : Addr} {closure : List (Str × Addr)} {qual : Str} {func : Option Addr} {code : Value} {around : Env} {builtins : Addr} {Q : Env → Shared → Prop}
    (h : Q (newEnv scope s.heap.objs.size globals (cellsFrom (s.heap.objs.size + 1) scope.names closure) qual func code (some around) builtins)
      { s with heap := pushCells (s.heap.push { cls := .type "dict", data := .dict #[] }) scope.names }) :
    wpAny M A (newFunctionEnv scope globals closure [] qual func code (some around) builtins) Q E s := by
  simp only [newFunctionEnv, Option.isSome_some, if_true]
  refine wpAny_bind (wpAny_alloc ?_)
  refine wpAny_bind (wpAny_layCells _ (fun n k c => rfl) scope.names closure _ _ ?_)
  rw [show ({ s with heap := s.heap.push { cls := .type "dict", data := .dict #[] } } : Shared).heap.objs.size = s.heap.objs.size + 1 from Heap.size_push ..]
  rw [List.forIn_nil]
  exact wpAny_bind (wpAny_pure (wpAny_pure h))
theorem lookup_relS {sc : Scope} : ∀ {names : List (Str × NameKind)} {x : Str} {k : NameKind},
    (names.map fun (n, k) => if (k == NameKind.free && sc.kind == .function && sc.names.lookup n == some .cell) then (n, NameKind.cell) else (n, k)).lookup x = some k →
    ∃ k', names.lookup x = some k' ∧ (k = k' ∨ (k' = .free ∧ k = .cell))
  | [], _, _, h => by simp at h
  | (n, k₀) :: r, x, k, h => by
    have ih := @lookup_relS sc r x k
    have h' : List.lookup x ((if (k₀ == NameKind.free && sc.kind == .function && sc.names.lookup n == some .cell) = true then (n, NameKind.cell) else (n, k₀)) :: (r.map _)) = some k := h
    cases hx : x == n with
    | true =>
      simp only [List.lookup_cons, hx]
      by_cases hc : (k₀ == NameKind.free && sc.kind == .function && sc.names.lookup n == some .cell) = true
      · rw [if_pos hc] at h'
        simp only [List.lookup_cons, hx] at h'
        cases h'
        simp only [Bool.and_eq_true, beq_iff_eq] at hc
        exact ⟨k₀, rfl, .inr ⟨hc.1.1, rfl⟩⟩
      · rw [if_neg hc] at h'
        simp only [List.lookup_cons, hx] at h'
        cases h'
        exact ⟨_, rfl, .inl rfl⟩
    | false =>
      simp only [List.lookup_cons, hx]
      by_cases hc : (k₀ == NameKind.free && sc.kind == .function && sc.names.lookup n == some .cell) = true
      · rw [if_pos hc] at h'
        simp only [List.lookup_cons, hx] at h'
        exact ih h'
      · rw [if_neg hc] at h'
        simp only [List.lookup_cons, hx] at h'
        exact ih h'
structure BlkOk (N : List Str) (sc scope : Scope) (own : List (Str × Nat)) : Prop where
  kind : scope.kind = .function
  uniq : ∀ y ∈ scope.names, scope.names.lookup y.1 = some y.2
  ix : ∀ p ∈ own, N[p.2]? = some p.1
  free : ∀ y ∈ scope.names, y.2 = .free → sc.names.lookup y.1 = some .cell ∨ sc.names.lookup y.1 = some .free
  own : ∀ y ∈ scope.names, y.2 = .local ∨ y.2 = .cell → y.1 ∈ own.map (·.1) ∨ y.1 ∉ N
def wipe (σ : St) : List Nat → St
  | [] => σ
  | v :: vs => (wipe σ vs).set v none
theorem wipe_length (σ : St) : ∀ vs : List Nat, (wipe σ vs).length = σ.length
  | [] => rfl
  | v :: vs => by unfold wipe; rw [List.length_set, wipe_length σ vs]
theorem wipe_some {σ : St} {i : Nat} {x : V} : ∀ {vs : List Nat}, (wipe σ vs)[i]? = some (some x) → σ[i]? = some (some x) ∧ i ∉ vs
  | [], h => ⟨h, by simp⟩
  | v :: vs, h => by
    unfold wipe at h
    by_cases hi : v = i
    · subst hi
      by_cases hv : v < (wipe σ vs).length
      · rw [List.getElem?_set_self hv] at h; cases h
      · rw [List.getElem?_eq_none (by simpa using hv)] at h; cases h
    · rw [List.getElem?_set_ne hi] at h
      obtain ⟨h1, h2⟩ := wipe_some h
      exact ⟨h1, by simp only [List.mem_cons, not_or]; exact ⟨fun e => hi e.symm, h2⟩⟩
abbrev Cx.blk (X : Cx) (s : Shared) (H : Hp) (scope : Scope) (cenv : Env) (fp : List Addr) : Cx := { X with s_0 := s, H_0 := H, env := cenv, outer := X.stack, ex := fp, fn := fun x => scope.names.lookup x == some .cell, pn := [], xe := fun _ _ => False }
section
variable {X : Cx} {pins : List (Addr × Obj)} {σ : St} {H : Hp} {s : Shared}
theorem block_start {scope : Scope} {own : List (Str × Nat)} {fp : List Addr} (I : Inv X pins σ H s) (ok : BlkOk X.N X.env.scope scope own) (hN : X.N.Nodup) (hfp : ∀ b ∈ fp, FpOk X pins H b ∧ b < s.heap.objs.size) :
    Inv (X.blk s H scope (compEnvC scope (cellsFrom (s.heap.objs.size + 1) scope.names (cloFrom X.env.cells scope.names [])) s.heap.objs.size X.env) fp) [] (wipe σ (own.map (·.2))) H { s with heap := pushCells (s.heap.push { cls := .type "dict", data := .dict #[] }) scope.names } := by
  have hfree : ∀ y ∈ scope.names, y.2 = .free → ∃ c, X.env.cells.lookup y.1 = some c := fun y hy e => by
    rcases ok.free y hy e with k | k
    · exact I.ok.has _ (.inl k)
    · exact I.ok.has _ (.inr k)
  generalize hcenv : compEnvC scope (cellsFrom (s.heap.objs.size + 1) scope.names (cloFrom X.env.cells scope.names [])) s.heap.objs.size X.env = cenv
  have kp : ∀ b o, s.heap.get? b = some o → (pushCells (s.heap.push { cls := .type "dict", data := .dict #[] }) scope.names).get? b = some o := fun b o e => pushCells_keeps _ _ _ _ (Heap.get?_push_of_some _ e)
  have hL : cenv.locals = s.heap.objs.size := by rw [← hcenv]; rfl
  have hcl : cenv.cells = cellsFrom (s.heap.objs.size + 1) scope.names (cloFrom X.env.cells scope.names []) := by rw [← hcenv]; rfl
  have hsc : cenv.scope = relS scope X.env.scope := by rw [← hcenv]; rfl
  rw [← Heap.size_push s.heap { cls := .type "dict", data := .dict #[] }] at hcl
  have cm : ∀ {y c}, (y, c) ∈ cloFrom X.env.cells scope.names [] → X.env.cells.lookup y = some c ∧ c < s.heap.objs.size := fun {y c} hm => by
    rcases cloFrom_mem hm with hm | ⟨h1, rfl⟩
    · cases hm
    · obtain ⟨c, hc⟩ := hfree _ h1 rfl
      rw [hc]
      obtain ⟨w, z⟩ := I.cell _ _ hc
      exact ⟨rfl, z.lt⟩
  have mem : ∀ {y c}, cenv.cells.lookup y = some c → (X.env.cells.lookup y = some c ∧ c < s.heap.objs.size) ∨ (s.heap.objs.size + 1 ≤ c ∧ CellAt (pushCells (s.heap.push { cls := .type "dict", data := .dict #[] }) scope.names) c none) := fun {y c} e => by
    rw [hcl] at e
    rcases cells_mem (PySem.mem_of_lookup e) with hm | ⟨_, h2, h3⟩
    · exact .inl (cm hm)
    · rw [Heap.size_push] at h2; exact .inr ⟨h2, h3⟩
  have look : ∀ {y}, scope.names.lookup y = some .free → ∃ c, cenv.cells.lookup y = some c ∧ X.env.cells.lookup y = some c := fun {y} hl => by
    have hy : (y, NameKind.free) ∈ scope.names := PySem.mem_of_lookup hl
    obtain ⟨c', e'⟩ := mem_lookup (cells_acc (names := scope.names) (n := (s.heap.push { cls := .type "dict", data := .dict #[] }).objs.size) (cloFrom_has (cells := X.env.cells) (acc := []) hy))
    rw [← hcl] at e'
    refine ⟨c', e', ?_⟩
    rw [hcl] at e'
    rcases cells_mem (PySem.mem_of_lookup e') with hm | ⟨h1, _, _⟩
    · exact (cm hm).1
    · have := ok.uniq _ h1
      rw [hl] at this; cases this
  have okB : (X.blk s H scope cenv fp).Ok := by
    refine ⟨I.ok.mod, by show cenv.scope.kind = _; rw [hsc]; exact ok.kind, by show cenv.globals = _; rw [← hcenv]; exact I.ok.glob, by show cenv.builtins = _; rw [← hcenv]; exact I.ok.blt, by show s.heap.objs.size ≤ cenv.locals; rw [hL]; exact Nat.le_refl _,
      fun y z c e1 e2 => ?_, fun y hy => ?_, fun y c z e => ?_, I.ok.hd, I.ok.frames, .inl rfl, fun b hb => ⟨?_, fun y c e z => ?_⟩, I.bs, Nat.le_trans I.ok.bsz I.sz, fun b o e hb => ?_, fun b hb z => ?_, I.stack, I.stkFree⟩
    · have e1 : cenv.cells.lookup y = some c := e1
      have e2 : cenv.cells.lookup z = some c := e2
      rw [hcl] at e1 e2
      refine cells_inj (fun p hp => ?_) (fun y z c a b => I.ok.inj y z c (cm a).1 (cm b).1) (PySem.mem_of_lookup e1) (PySem.mem_of_lookup e2)
      rw [Heap.size_push]
      exact Nat.lt_succ_of_lt (cm (y := p.1) (c := p.2) hp).2
    · show ∃ c, cenv.cells.lookup y = some c
      have key : ∀ k, cenv.kindOf y = some k → (k = .cell ∨ k = .free) → ∃ c, cenv.cells.lookup y = some c := fun k hk hk' => by
        unfold Env.kindOf at hk
        rw [hsc] at hk
        obtain ⟨k', e, r⟩ := lookup_relS hk
        have : k' = .cell ∨ k' = .free := by
          rcases r with rfl | ⟨rfl, _⟩
          · exact hk'
          · exact .inr rfl
        rcases this with rfl | rfl
        · obtain ⟨c, hm⟩ := cells_has (n := (s.heap.push { cls := .type "dict", data := .dict #[] }).objs.size) (acc := cloFrom X.env.cells scope.names []) (PySem.mem_of_lookup e)
          obtain ⟨c', e'⟩ := mem_lookup hm
          exact ⟨c', by rw [hcl]; exact e'⟩
        · obtain ⟨c, h1, _⟩ := look e
          exact ⟨c, h1⟩
      rcases hy with hy | hy
      · exact key _ hy (.inl rfl)
      · exact key _ hy (.inr rfl)
    · have z : (scope.names.lookup y == some NameKind.cell) = true := z
      have z : scope.names.lookup y = some .cell := by simpa using z
      have e : cenv.cells.lookup y = some c := e
      rw [hcl] at e
      rcases cells_mem (PySem.mem_of_lookup e) with hm | ⟨_, h2, _⟩
      · rcases cloFrom_mem hm with hm | ⟨h1, _⟩
        · cases hm
        · have q := ok.uniq _ h1
          rw [z] at q; cases q
      · rw [Heap.size_push] at h2
        exact Nat.le_of_succ_le h2
    · show b ≠ cenv.locals
      rw [hL]; exact Nat.ne_of_lt (hfp b hb).2
    · have e : cenv.cells.lookup y = some c := e
      rcases mem e with ⟨h1, _⟩ | ⟨h1, _⟩
      · exact (hfp b hb).1.2.2.2.2.1 y c h1 z
      · have h2 : s.heap.objs.size + 1 ≤ b := by rw [← z]; exact h1
        exact absurd (Nat.lt_of_lt_of_le (hfp b hb).2 (Nat.le_of_succ_le h2)) (Nat.lt_irrefl _)
    · rcases (hfp b hb).1.2.2.2.1 with z | z
      · exact I.ok.noex b o e z
      · exact absurd (Nat.lt_of_lt_of_le (Heap.lt_size e) (Nat.le_trans I.ok.bsz z)) (Nat.lt_irrefl _)
    · rcases List.mem_cons.mp (I.stkSub b z) with z | z
      · exact (hfp b hb).1.2.1 z
      · exact (hfp b hb).1.2.2.1 z
  refine ⟨okB, rfl, I.bare, Un.kept kp, ⟨fun _ => none, ?_, fun i y av e1 e2 e3 => ?_⟩, fun y c e => ?_, ?_, fun y c e => ?_, fun p hp => ?_, I.hok.kept kp, by rw [wipe_length]; exact I.len⟩
  · show Heap.Ns _ cenv.locals _
    rw [hL]
    exact Heap.Ns.keeps (Heap.Ns.new ..) fun b o e => pushCells_keeps _ _ _ _ e
  · obtain ⟨e2, hne⟩ := wipe_some e2
    have hfr : scope.names.lookup y = some .free ∧ (cenv.kindOf y = some .cell ∨ cenv.kindOf y = some .free) := by
      have key : ∀ k, cenv.scope.names.lookup y = some k → k = .local ∨ k = .cell ∨ k = .free → scope.names.lookup y = some .free ∧ (cenv.kindOf y = some .cell ∨ cenv.kindOf y = some .free) := fun k hk hk' => by
        have hk0 := hk
        rw [hsc] at hk
        obtain ⟨k', e, r⟩ := lookup_relS hk
        have no : ¬ (k' = .local ∨ k' = .cell) := fun hh => by
          rcases ok.own _ (PySem.mem_of_lookup e) hh with e' | e'
          · obtain ⟨p, hp, hpy⟩ := List.mem_map.mp e'
            have e3 := ok.ix p hp
            have : p.1 = y := hpy
            rw [this] at e3
            exact hne (List.mem_map.mpr ⟨p, hp, nodup_ix hN e3 e1⟩)
          · exact e' (List.mem_of_getElem? e1)
        rcases r with rfl | ⟨rfl, rfl⟩
        · rcases hk' with rfl | rfl | rfl
          · exact absurd (.inl rfl) no
          · exact absurd (.inr rfl) no
          · exact ⟨e, .inr hk0⟩
        · exact ⟨e, .inl hk0⟩
      have e3 : Vis cenv.scope y := e3
      rcases e3 with e3 | e3 | e3
      · exact key _ e3 (.inl rfl)
      · exact key _ e3 (.inr (.inl rfl))
      · exact key _ e3 (.inr (.inr rfl))
    obtain ⟨m, hn, hl⟩ := I.loc
    have hvis : Vis X.env.scope y := (ok.free _ (PySem.mem_of_lookup hfr.1) rfl).elim (fun k => .inr (.inl k)) (fun k => .inr (.inr k))
    obtain ⟨w, r, q⟩ := hl i y av e1 e2 hvis
    refine ⟨w, r, .inr ⟨hfr.2, ?_⟩⟩
    obtain ⟨c, h1, h2⟩ := look hfr.1
    rcases q with ⟨k, _⟩ | ⟨_, c', e', z⟩
    · have k : X.env.scope.names.lookup y = some .local := k
      rcases ok.free _ (PySem.mem_of_lookup hfr.1) rfl with k' | k' <;> rw [show X.env.scope.names.lookup y = _ from k'] at k <;> cases k
    · rw [h2] at e'; cases e'
      exact ⟨c, h1, z.keeps kp⟩
  · have e : cenv.cells.lookup y = some c := e
    rcases mem e with ⟨h1, _⟩ | ⟨_, z⟩
    · obtain ⟨w, z⟩ := I.cell y c h1
      exact ⟨w, z.keeps kp⟩
    · exact ⟨_, z⟩
  · show H cenv.locals = none
    rw [hL]; exact I.hok.fresh (Nat.le_refl _)
  · have e : cenv.cells.lookup y = some c := e
    rcases mem e with ⟨h1, _⟩ | ⟨h1, _⟩
    · exact I.freeC y c h1
    · exact I.hok.fresh (Nat.le_of_succ_le h1)
  · exact absurd (show p ∈ ([] : List (Addr × Obj)) ++ [] from hp) (by simp)
theorem app_ok {E : Value → Shared → Prop} {D : Addr} {xs : List V} {y : V} {v : Value} {Q : Value → Shared → Prop} (I : Inv X pins σ H s) (hD : H D = some (.lst xs)) (hz : xs.length < sizeLine) (r : RelV y v)
    (h : ∀ s', Inv X pins σ (upd H D (.lst (xs ++ [y]))) s' → Q .none s') : wpAny (model X.prog X.w) X.A (call (.builtin "list.append") [.ref D, v]) Q E s := by
  obtain ⟨hz', its, n, ri, e⟩ := I.hok D _ hD
  have hl := ri.length
  refine append_at (hsz := by rw [List.size_toArray]; omega) e fun h' sb ho' => ?_
  refine h { s with heap := h' } (I.write (t' := s.toks) (by rw [hD]; trivial) (.inl rfl) (fun b u hb q => (sb.2 b hb).trans q) ⟨_, ho'⟩ ⟨by rw [List.length_append]; exact hz, its ++ [v], n + 1, ri.append (.cons r .nil), ?_⟩)
  rw [ho']
  simp
def PTs (X : Cx) (ifs : List Expr) (t : TT) : Prop :=
  ∀ (pins : List (Addr × Obj)) (s : Shared) (σ : St) (H : Hp) (Q : Bool → Hp → Prop), Inv X pins σ H s → t σ H Q →
    wpAny (model X.prog X.w) X.A (forIn ifs true fun c r => if r = true then do let ok ← isTrue c X.env (eval c X.env); pure (ForInStep.yield ok) else pure (ForInStep.yield r)) (TP X pins σ Q) X.xe s
def tYes : TT := fun _ H Q => Q true H
theorem pts_nil : PTs X [] tYes := fun _ _ _ H _ I h => wpAny_tests_nil ⟨H, I, h⟩
theorem pts_one {c : Expr} {t : TT} (h : PT X c t) : PTs X [c] t := fun pins s σ H Q I hw => wpAny_tests_one (h pins s σ H Q I hw)
end
theorem thnF {α : Type} {t : Sem α} {Q Q' : α → Shared → Prop} {M : Model} {A : Around} {E : Value → Shared → Prop} {s : Shared} (h : wpAny M A t Q (fun _ _ => False) s) (hQ : ∀ a s, Q a s → Q' a s) : wpAny M A t Q' E s := wpAny_mono h hQ fun _ _ z => False.elim z
theorem compLoop_any {prog : Program} {w : World} {A : Around} {R : Result → Shared → Prop} {s : Shared} {elt target iter : Expr} {ifs : List Expr} {scope : Scope} {pos : Pos} {it acc : Value} {env : Env} (I : Nat → Shared → Prop)
    (turn : ∀ n s, I n s → wpAny (model prog w) A (pyNext it) (fun r s₁ => match r with
      | none => R (.ok .next) s₁
      | some v => wpAny (model prog w) A (letOwnedTupleGo target it v) (fun _ s₁' => wpAny (model prog w) A (assign target env v) (fun _ s₂ =>
          wpAny (model prog w) A (forIn ifs true fun c r => if r = true then do let ok ← isTrue c env (eval c env); pure (ForInStep.yield ok) else pure (ForInStep.yield r)) (fun ok s₃ =>
            if ok = true then wpAny (model prog w) A (eval elt env) (fun x s₄ =>
              wpAny (model prog w) A (call (.builtin "list.append") [acc, x]) (fun _ s₅ => ∃ m, m < n ∧ I m s₅) (notedBy (model prog w) A env fun e s' => R (.error e) s') s₄) (notedBy (model prog w) A env fun e s' => R (.error e) s') s₃
            else ∃ m, m < n ∧ I m s₃) (notedBy (model prog w) A env fun e s' => R (.error e) s') s₂) (notedBy (model prog w) A env fun e s' => R (.error e) s') s₁') (notedBy (model prog w) A env fun e s' => R (.error e) s') s₁) (notedBy (model prog w) A env fun e s' => R (.error e) s') s)
    (n : Nat) (h : I n s) :
    codeAny (model prog w) A (.compLoop (.ListComp elt [⟨target, iter, ifs, 0⟩] scope pos) 0 it acc env) R s := by
  refine codeAny_loop rfl I (fun n s hI => ?_) n h
  show wpAny _ A ((compTurn (.ListComp elt [⟨target, iter, ifs, 0⟩] scope pos) 0 it acc env).onRaise (fun x => do noteFrame x env; theTreesLotGoes x)) _ _ s
  refine wpAny_noted ?_
  rw [compTurn_list]
  refine wpAny_bind (wpAny_standAt (wpAny_bind (wpAny_mono (turn n s hI) (fun r s₁ h₁ => ?_) fun _ _ h' => h')))
  cases r with
  | none => exact wpAny_pure h₁
  | some v =>
    refine wpAny_bind (wpAny_mono h₁ (fun _ s₁' h₁' => ?_) fun _ _ h' => h')
    refine wpAny_bind (wpAny_mono h₁' (fun _ s₂ h₂ => wpAny_bind (wpAny_mono h₂ (fun ok s₃ h₃ => ?_) fun _ _ h' => h')) fun _ _ h' => h')
    cases ok with
    | false => exact wpAny_pure ⟨rfl, h₃⟩
    | true =>
      exact wpAny_bind (wpAny_bind (wpAny_mono h₃ (fun x s₄ h₄ => wpAny_bind (wpAny_mono h₄ (fun _ s₅ h₅ => wpAny_pure (wpAny_pure ⟨rfl, h₅⟩)) fun _ _ h' => h')) fun _ _ h' => h'))
section
variable {X : Cx}
def tLc (wi : TI) (g : TG) (tt : TT) (te : TE) (vs : List Nat) : TE := fun σ H Q => wi σ H fun J H1 => ∀ D, H1 D = none → ∃ W : Nat → Nat → Hp → Prop, (∃ m, W 0 m (upd H1 D (.lst []))) ∧ ∀ i m H, W i m H →
  (J.stop i H ∧ Q (.ref D) H) ∨ (J.go i H ∧ ∃ Nx : Hp → Prop, (∀ H', Nx H' → ∃ m', m' < m ∧ W (i + 1) m' H') ∧ ∀ x H', J.yld i H x H' → g x (wipe σ vs) H' fun σ2 H2 => wipe σ2 vs = wipe σ vs ∧ tt σ2 H2 fun b H3 =>
    if b = true then te σ2 H3 fun y H4 => ∃ acc, H4 D = some (.lst acc) ∧ acc.length < sizeLine ∧ Nx (upd H4 D (.lst (acc ++ [y]))) else Nx H3)
theorem lc_core {pins : List (Addr × Obj)} {s : Shared} {σ : St} {H : Hp} {Q : VK} {elt tg iter : Expr} {ifs : List Expr} {scope : Scope} {own : List (Str × Nat)} {pos pos' : Pos} {wi : TI} {g : TG} {tt : TT} {te : TE} {use : Option (Value → Sem Unit)} {Qf : Value → Shared → Prop}
    (hc : X.calm = true) (hN : X.N.Nodup) (I : Inv X pins σ H s) (hi : PI X tg iter wi) (ok : BlkOk X.N X.env.scope scope own)
    (hg : ∀ (s : Shared) (H : Hp) (C : Addr) (cl : List (Str × Addr)) (fp : List Addr), PG (X.blk s H scope (compEnvC scope cl C X.env) fp) tg g) (ht : ∀ (s : Shared) (H : Hp) (C : Addr) (cl : List (Str × Addr)) (fp : List Addr), PTs (X.blk s H scope (compEnvC scope cl C X.env) fp) ifs tt)
    (he : ∀ (s : Shared) (H : Hp) (C : Addr) (cl : List (Str × Addr)) (fp : List Addr), PE (X.blk s H scope (compEnvC scope cl C X.env) fp) elt te) (hs : ∀ x, foldedSetIterable iter X.env x = pure x)
    (h : tLc wi g tt te (own.map (·.2)) σ H Q)
    (hRR : ∀ D C s' m H', Inv X pins σ H' s' → Q (.ref D) H' → s'.heap.Ns C m → FpOk X pins H' C → compPost (model X.prog X.w) X.A X.xe use Qf (.ref D) C (.ok .next) s') :
    wpAny (model X.prog X.w) X.A (comprehension (.ListComp elt [⟨tg, iter, ifs, 0⟩] scope pos) scope X.env pos' (newList []) false (eval iter X.env) use) Qf X.xe s := by
  have hfree : ∀ y ∈ scope.names, y.2 = .free → ∃ c, X.env.cells.lookup y.1 = some c := fun y hy e => by
    rcases ok.free y hy e with k | k
    · exact I.ok.has _ (.inl k)
    · exact I.ok.has _ (.inr k)
  refine wpAny_comprehension_free (use := use) rfl hs (closure_ok hfree) ok.kind (fun y hy e => by rw [ok.uniq y hy, e])
    (thn (hi pins s σ H _ I h) fun xv s1 hx => thn hx fun itv s2 h2 => ?_)
  obtain ⟨it, fp, tn, J, H2, e, I2, T, st2, f2, q⟩ := h2
  subst e
  refine wpAny_newObj_type (newEnv_comp ?_) (by show 0 ≤ sizeLine; decide)
  generalize hD : s2.heap.objs.size = D
  have hDn : H2 D = none := I2.hok.fresh (Nat.le_of_eq hD)
  obtain ⟨W, ⟨m0, w0⟩, turn⟩ := q D hDn
  -- the new list
  generalize hs3 : ({ s2 with heap := s2.heap.push { cls := .type "list", data := .seq ([] : List Value).toArray } } : Shared) = s3
  have I3 : Inv X pins σ (upd H2 D (.lst [])) s3 := by
    rw [← hs3]
    refine I2.laid (t' := s2.toks) (fun b o e => Heap.get?_push_of_some _ e) (Nat.le_of_eq hD) ⟨Nat.zero_le _, [], 0, .nil, ?_⟩
    rw [← hD]
    exact Heap.get?_push_size _ rfl
  have h3 : s3.heap = s2.heap.push { cls := .type "list", data := .seq ([] : List Value).toArray } := by rw [← hs3]
  have sz : ∀ b ∈ fp, b < s2.heap.objs.size := fun b hb => by
    obtain ⟨o, e, _⟩ := T.obj _ _ st2 b hb
    exact Heap.lt_size e
  have f3 : ∀ b ∈ fp, FpOk X pins (upd H2 D (.lst [])) b ∧ b < s3.heap.objs.size := fun b hb => by
    have hlt := sz b hb
    refine ⟨⟨?_, (f2 b hb).2⟩, by rw [h3, Heap.size_push]; exact Nat.lt_succ_of_lt hlt⟩
    rw [upd_ne (by rw [← hD]; exact Nat.ne_of_lt hlt)]
    exact (f2 b hb).1
  have st3 : tn 0 s3.heap := T.keep _ _ _ st2 fun b _ o e => by rw [h3]; exact Heap.get?_push_of_some _ e
  have I4 := block_start I3 ok hN f3
  have pg := hg s3 (upd H2 D (.lst [])) s3.heap.objs.size (cellsFrom (s3.heap.objs.size + 1) scope.names (cloFrom X.env.cells scope.names [])) fp
  have pt := ht s3 (upd H2 D (.lst [])) s3.heap.objs.size (cellsFrom (s3.heap.objs.size + 1) scope.names (cloFrom X.env.cells scope.names [])) fp
  have pe := he s3 (upd H2 D (.lst [])) s3.heap.objs.size (cellsFrom (s3.heap.objs.size + 1) scope.names (cloFrom X.env.cells scope.names [])) fp
  show codeAny _ _ (.compStart (.ListComp elt [⟨tg, iter, ifs, 0⟩] scope pos) 0 (.ref it) (.ref D) (compEnvC scope (cellsFrom (s3.heap.objs.size + 1) scope.names (cloFrom X.env.cells scope.names [])) s3.heap.objs.size X.env)) (compPost (model X.prog X.w) X.A X.xe use Qf (.ref D) s3.heap.objs.size) { s3 with heap := pushCells (s3.heap.push { cls := .type "dict", data := .dict #[] }) scope.names }
  have nfp : ∀ b ∈ fp, (upd H2 D (.lst [])) b = none := fun b hb => (f3 b hb).1.1
  generalize hce : compEnvC scope (cellsFrom (s3.heap.objs.size + 1) scope.names (cloFrom X.env.cells scope.names [])) s3.heap.objs.size X.env = ce at I4 pg pt pe ⊢
  have cL : ce.locals = s3.heap.objs.size := by subst hce; rfl
  generalize hH3 : upd H2 D (.lst []) = H3 at I3 I4 pg pt pe w0 nfp f3
  generalize hs4 : ({ s3 with heap := pushCells (s3.heap.push { cls := .type "dict", data := .dict #[] }) scope.names } : Shared) = s4 at I4 ⊢
  have st4 : tn 0 s4.heap := T.keep _ _ _ st3 fun b _ o e => by rw [← hs4]; exact pushCells_keeps _ _ _ _ (Heap.get?_push_of_some _ e)
  have stat : ∀ {σ' : St} {H' : Hp} {s' : Shared}, Inv (X.blk s3 H3 scope ce fp) [] σ' H' s' → (∀ b ∈ fp, H' b = none) → ∀ b ∈ fp, FpOk (X.blk s3 H3 scope ce fp) [] H' b := fun {σ' H' s'} I' hn b hb =>
    ⟨hn b hb, (I'.ok.exf b hb).1, I'.ok.exfs b hb, .inl hb, fun x c e => (I'.ok.exf b hb).2 x c e, fun p hp => absurd (show p ∈ ([] : List (Addr × Obj)) ++ [] from hp) (by simp)⟩
  have loop : codeAny (model X.prog X.w) X.A (.compLoop (.ListComp elt [⟨tg, iter, ifs, 0⟩] scope pos) 0 (.ref it) (.ref D) ce) (compPost (model X.prog X.w) X.A X.xe use Qf (.ref D) s3.heap.objs.size) s4 := by
    refine compLoop_any (fun n s' => ∃ i H', Inv (X.blk s3 H3 scope ce fp) [] (wipe σ (own.map (·.2))) H' s' ∧ tn i s'.heap ∧ (∀ b ∈ fp, H' b = none) ∧ W i n H') ?_ m0 ⟨0, H3, I4, st4, nfp, w0⟩
    rintro n s5 ⟨i, H5, I5, st5, n5, w5⟩
    rcases turn i n H5 w5 with ⟨stop, qq⟩ | ⟨go, Nx, hNx, step⟩
    · have td := T.done (X.blk s3 H3 scope ce fp) rfl rfl rfl hc i [] s5 _ H5 (fun _ _ => False) I5 (stat I5 n5) st5 stop
      refine thnF td fun r s6 ⟨hr, I6⟩ => ?_
      subst hr
      -- back in the def's context
      have I7 : Inv X pins σ H5 s6 := I3.call' (ch := fp) I6.os I6.base I6.hok I6.bare fun b hb => ⟨(f3 b hb).1.2.2.2.1, (f3 b hb).1.2.1, (f3 b hb).1.2.2.2.2.1, (f3 b hb).1.2.2.2.2.2⟩
      have nC : H5 s3.heap.objs.size = none := by
        have z : H5 ce.locals = none := I6.free
        rw [cL] at z
        exact z
      obtain ⟨m, hn, _⟩ := I6.loc
      have hn : s6.heap.Ns ce.locals m := hn
      rw [cL] at hn
      exact hRR D s3.heap.objs.size s6 m H5 I7 qq hn (I3.fpOk (Nat.le_refl _) nC)
    · have ti := T.item (X.blk s3 H3 scope ce fp) rfl rfl rfl hc i [] s5 _ H5 (fun _ _ => False) I5 (stat I5 n5) st5 go
      refine thnF ti fun r s6 ⟨u, hr, h6⟩ => ?_
      subst hr
      refine thnF h6 fun _ s7 ⟨x, H7, I7, r7, y7, st7, n7⟩ => ?_
      have I7' := I7.pinned (stat I7 n7) (T.obj _ _ st7)
      refine thnF (pg _ s7 _ H7 x u _ I7' r7 (step x H7 y7)) fun _ s8 ⟨σ8, H8, I8, hw8, q8⟩ => ?_
      refine thnF (pt _ s8 σ8 H8 _ I8 q8) fun b s9 ⟨H9, I9, q9⟩ => ?_
      -- the turn's end
      have fin : ∀ {s' : Shared} {H' : Hp}, Inv (X.blk s3 H3 scope ce fp) ([] ++ pinsAt fp s7.heap) σ8 H' s' → Nx H' → ∃ m, m < n ∧ ∃ i H', Inv (X.blk s3 H3 scope ce fp) [] (wipe σ (own.map (·.2))) H' s' ∧ tn i s'.heap ∧ (∀ b ∈ fp, H' b = none) ∧ W i m H' := fun {s' H'} I' nx => by
        obtain ⟨m', hm, w'⟩ := hNx H' nx
        have pin' : ∀ b ∈ fp, ∀ o, s7.heap.get? b = some o → s'.heap.get? b = some o ∧ H' b = none := fun b hb o e =>
          let z := I'.pin (b, o) (List.mem_append_right _ (List.mem_append_right _ (mem_pinsAt hb e)))
          ⟨z.1, z.2.1⟩
        have hl : (wipe σ (own.map (·.2))).length = σ8.length := by rw [← hw8, wipe_length]
        refine ⟨m', hm, i + 1, H', (I'.unpinned (pins := [])).weak hl (fun j v e => ?_), T.keep _ _ _ st7 fun b hb o e => (pin' b hb o e).1, fun b hb => ?_, w'⟩
        · rw [← hw8] at e
          exact (wipe_some e).1
        · obtain ⟨o, e, _⟩ := T.obj _ _ st7 b hb
          exact (pin' b hb o e).2
      cases b with
      | false =>
        simp only [Bool.false_eq_true, if_false] at q9 ⊢
        exact fin I9 q9
      | true =>
        simp only [if_true] at q9 ⊢
        refine thnF (pe _ s9 σ8 H9 _ I9 q9) fun z s10 ⟨yv, H10, I10, r10, acc, hD10, hz10, nx⟩ => ?_
        exact app_ok (X := X.blk s3 H3 scope ce fp) I10 hD10 hz10 r10 fun s11 I11 => fin I11 nx
  exact codeAny_compStart_list loop (T.self X.A 0 _ _ _ st4 loop)
theorem pe_lc {elt tg iter : Expr} {ifs : List Expr} {scope : Scope} {own : List (Str × Nat)} {pos : Pos} {wi : TI} {g : TG} {tt : TT} {te : TE} (hc : X.calm = true) (hN : X.N.Nodup) (hi : PI X tg iter wi) (ok : BlkOk X.N X.env.scope scope own)
    (hg : ∀ (s : Shared) (H : Hp) (C : Addr) (cl : List (Str × Addr)) (fp : List Addr), PG (X.blk s H scope (compEnvC scope cl C X.env) fp) tg g) (ht : ∀ (s : Shared) (H : Hp) (C : Addr) (cl : List (Str × Addr)) (fp : List Addr), PTs (X.blk s H scope (compEnvC scope cl C X.env) fp) ifs tt)
    (he : ∀ (s : Shared) (H : Hp) (C : Addr) (cl : List (Str × Addr)) (fp : List Addr), PE (X.blk s H scope (compEnvC scope cl C X.env) fp) elt te) (hs : ∀ x, foldedSetIterable iter X.env x = pure x := by intro _; rfl) :
    PE X (.ListComp elt [⟨tg, iter, ifs, 0⟩] scope pos) (tLc wi g tt te (own.map (·.2))) := by
  intro pins s σ H Q I h
  rw [eval_ListComp]
  refine lc_core hc hN I hi ok hg ht he hs h fun D C s' m H' I' q hn f => ⟨m, hn, fun h'' sb => ?_⟩
  obtain ⟨f0, f1, f2, f3, f4, f5⟩ := f
  exact ⟨.ref D, H', I'.turned (t' := s'.toks) (fun b o hb e => (sb.2 b hb).trans e) f0 f1 f3 f4 f5, rfl, q⟩
theorem ps_setLc {i : Nat} {y : Str} {py : Pos} {elt tg iter : Expr} {ifs : List Expr} {scope : Scope} {own : List (Str × Nat)} {pos spos : Pos} {wi : TI} {g : TG} {tt : TT} {te : TE} (hc : X.calm = true) (hN : X.N.Nodup) (hy : X.N[i]? = some y) (hyl : X.env.scope.names.lookup y = some .local)
    (hsw : swapsWith (.ListComp elt [⟨tg, iter, ifs, 0⟩] scope pos) (some (.Name y py)) spos.line X.env = pure true) (hi : PI X tg iter wi) (ok : BlkOk X.N X.env.scope scope own)
    (hg : ∀ (s : Shared) (H : Hp) (C : Addr) (cl : List (Str × Addr)) (fp : List Addr), PG (X.blk s H scope (compEnvC scope cl C X.env) fp) tg g) (ht : ∀ (s : Shared) (H : Hp) (C : Addr) (cl : List (Str × Addr)) (fp : List Addr), PTs (X.blk s H scope (compEnvC scope cl C X.env) fp) ifs tt)
    (he : ∀ (s : Shared) (H : Hp) (C : Addr) (cl : List (Str × Addr)) (fp : List Addr), PE (X.blk s H scope (compEnvC scope cl C X.env) fp) elt te) (hs : ∀ x, foldedSetIterable iter X.env x = pure x := by intro _; rfl) :
    PS X (.Assign [.Name y py] (.ListComp elt [⟨tg, iter, ifs, 0⟩] scope pos) spos) (tAsg (tLc wi g tt te (own.map (·.2))) (gName i)) := by
  intro pins s σ H D I h
  rw [exec_Assign_Name_used _ _ _ _ hsw]
  refine wpAny_bind (wpAny_standAt (wpAny_bind ?_))
  show wpAny _ X.A (do let _ ← comprehension (.ListComp elt [⟨tg, iter, ifs, 0⟩] scope pos) scope X.env (firstIterPos [⟨tg, iter, ifs, 0⟩] pos) (newList []) false (eval iter X.env) (some (assign (.Name y py) X.env))) _ _ s
  have h : tLc wi g tt te (own.map (·.2)) σ H (fun x H1 => gName i x σ H1 D.nx) := h
  refine wpAny_bind (thn (lc_core (Qf := fun _ s' => SP X pins D .next s') hc hN I hi ok hg ht he hs h fun L C s' m H' I' q hn f => ?_) fun _ s' hq => wpAny_pure (wpAny_pure hq))
  show wpAny _ _ (assign (.Name y py) X.env (.ref L)) _ _ _
  refine wpAny_assign_Name (store_ok2 (v := V.ref L) I' hN hy (.inl hyl) rfl (fun s2 I2 ⟨a, sb, ha⟩ => ?_) (.inr hyl))
  obtain ⟨f0, f1, f2, f3, f4, f5⟩ := f
  have haC : C ≠ a := by
    rcases ha with z | z
    · rw [z]; exact f1
    · exact fun e => f4 y a z e.symm
  refine ⟨m, hn.sameBut sb haC, fun h3 sb3 => ?_⟩
  exact ⟨_, H', I2.turned (t' := s2.toks) (fun b o hb e => (sb3.2 b hb).trans e) f0 f1 f3 f4 f5, q⟩
theorem sw_true {elt : Expr} {gs : List Comprehension} {scope : Scope} {pos py : Pos} {y : Str} {l : Nat} {env : Env} (hk : env.scope.kind = .function) (hy : env.scope.names.lookup y = some .local) (hl : (py.line == pos.line) = true)
    (ha : (scope.names.any fun (n, k) => n == y && (k == .local || k == .cell)) = false) : swapsWith (.ListComp elt gs scope pos) (some (.Name y py)) l env = pure true := by
  have ky : env.kindOf y = some .local := hy
  have hb : env.blockKind = .function := by unfold Env.blockKind; rw [hk]; rfl
  unfold swapsWith
  simp only [hb, ky, ha, Expr.pos, hl]
  rfl
end
theorem lc_range {lo : Int} {n : Nat} {g : TG} {tt : TT} {te : TE} {vs : List Nat} {σ : St} {H1 : Hp} {D : Addr} {Qd : Hp → Prop} (Pv : Nat → Hp → Prop) (h0 : Pv 0 (upd H1 D (.lst [])))
    (hs : ∀ i H, i < n → Pv i H → g (.int (lo + i)) (wipe σ vs) H fun σ2 H2 => wipe σ2 vs = wipe σ vs ∧ tt σ2 H2 fun b H3 =>
      if b = true then te σ2 H3 fun y H4 => ∃ acc, H4 D = some (.lst acc) ∧ acc.length < sizeLine ∧ Pv (i + 1) (upd H4 D (.lst (acc ++ [y]))) else Pv (i + 1) H3) (hd : ∀ H, Pv n H → Qd H) :
    ∃ W : Nat → Nat → Hp → Prop, (∃ m, W 0 m (upd H1 D (.lst []))) ∧ ∀ i m H, W i m H →
      ((Itr lo n).stop i H ∧ Qd H) ∨ ((Itr lo n).go i H ∧ ∃ Nx : Hp → Prop, (∀ H', Nx H' → ∃ m', m' < m ∧ W (i + 1) m' H') ∧ ∀ x H', (Itr lo n).yld i H x H' → g x (wipe σ vs) H' fun σ2 H2 => wipe σ2 vs = wipe σ vs ∧ tt σ2 H2 fun b H3 =>
        if b = true then te σ2 H3 fun y H4 => ∃ acc, H4 D = some (.lst acc) ∧ acc.length < sizeLine ∧ Nx (upd H4 D (.lst (acc ++ [y]))) else Nx H3) := by
  refine ⟨fun i m H => m = n - i ∧ i ≤ n ∧ Pv i H, ⟨n, by simp, Nat.zero_le _, h0⟩, ?_⟩
  rintro i m H ⟨rfl, hi, p⟩
  by_cases hlt : i < n
  · refine .inr ⟨hlt, Pv (i + 1), fun H' p' => ⟨n - (i + 1), by omega, rfl, hlt, p'⟩, fun x H' y => ?_⟩
    obtain ⟨e, y⟩ := y
    subst e y
    exact hs i _ hlt p
  · have e : i = n := by omega
    subst e
    exact .inl ⟨Nat.le_refl _, hd H p⟩
theorem lc_list {K : PySem.W.Frag} {a : Addr} {xs : List V} {g : TG} {tt : TT} {te : TE} {vs : List Nat} {σ : St} {H1 : Hp} {D : Addr} {Qd : Hp → Prop} (Pv : Nat → Hp → Prop) (h0 : Pv 0 (upd H1 D (.lst []))) (hl : ∀ i H, i ≤ xs.length → Pv i H → SqL K H a xs)
    (hs : ∀ i x H, xs[i]? = some x → Pv i H → g x (wipe σ vs) H fun σ2 H2 => wipe σ2 vs = wipe σ vs ∧ tt σ2 H2 fun b H3 =>
      if b = true then te σ2 H3 fun y H4 => ∃ acc, H4 D = some (.lst acc) ∧ acc.length < sizeLine ∧ Pv (i + 1) (upd H4 D (.lst (acc ++ [y]))) else Pv (i + 1) H3) (hd : ∀ H, Pv xs.length H → Qd H) :
    ∃ W : Nat → Nat → Hp → Prop, (∃ m, W 0 m (upd H1 D (.lst []))) ∧ ∀ i m H, W i m H →
      ((Itl K a).stop i H ∧ Qd H) ∨ ((Itl K a).go i H ∧ ∃ Nx : Hp → Prop, (∀ H', Nx H' → ∃ m', m' < m ∧ W (i + 1) m' H') ∧ ∀ x H', (Itl K a).yld i H x H' → g x (wipe σ vs) H' fun σ2 H2 => wipe σ2 vs = wipe σ vs ∧ tt σ2 H2 fun b H3 =>
        if b = true then te σ2 H3 fun y H4 => ∃ acc, H4 D = some (.lst acc) ∧ acc.length < sizeLine ∧ Nx (upd H4 D (.lst (acc ++ [y]))) else Nx H3) := by
  refine ⟨fun i m H => m = xs.length - i ∧ i ≤ xs.length ∧ Pv i H, ⟨xs.length, by simp, Nat.zero_le _, h0⟩, ?_⟩
  rintro i m H ⟨rfl, hi, p⟩
  have q := hl i H hi p
  by_cases hlt : i < xs.length
  · refine .inr ⟨⟨xs, xs[i], q, by simp [hlt]⟩, Pv (i + 1), fun H' p' => ⟨xs.length - (i + 1), by omega, rfl, hlt, p'⟩, fun x H' y => ?_⟩
    obtain ⟨e, y⟩ := y
    subst e
    exact hs i x _ (y xs q) p
  · have e : i = xs.length := by omega
    subst e
    exact .inl ⟨⟨xs, q, Nat.le_refl _⟩, hd H p⟩
theorem lc_tup {K : PySem.W.Frag} {a : Addr} {xs : List V} {g : TG} {tt : TT} {te : TE} {vs : List Nat} {σ : St} {H1 : Hp} {D : Addr} {Qd : Hp → Prop} (Pv : Nat → Hp → Prop) (h0 : Pv 0 (upd H1 D (.lst []))) (hl : ∀ i H, i ≤ xs.length → Pv i H → SqT K H a xs)
    (hs : ∀ i x H, xs[i]? = some x → Pv i H → g x (wipe σ vs) H fun σ2 H2 => wipe σ2 vs = wipe σ vs ∧ tt σ2 H2 fun b H3 =>
      if b = true then te σ2 H3 fun y H4 => ∃ acc, H4 D = some (.lst acc) ∧ acc.length < sizeLine ∧ Pv (i + 1) (upd H4 D (.lst (acc ++ [y]))) else Pv (i + 1) H3) (hd : ∀ H, Pv xs.length H → Qd H) :
    ∃ W : Nat → Nat → Hp → Prop, (∃ m, W 0 m (upd H1 D (.lst []))) ∧ ∀ i m H, W i m H →
      ((Itt K a).stop i H ∧ Qd H) ∨ ((Itt K a).go i H ∧ ∃ Nx : Hp → Prop, (∀ H', Nx H' → ∃ m', m' < m ∧ W (i + 1) m' H') ∧ ∀ x H', (Itt K a).yld i H x H' → g x (wipe σ vs) H' fun σ2 H2 => wipe σ2 vs = wipe σ vs ∧ tt σ2 H2 fun b H3 =>
        if b = true then te σ2 H3 fun y H4 => ∃ acc, H4 D = some (.lst acc) ∧ acc.length < sizeLine ∧ Nx (upd H4 D (.lst (acc ++ [y]))) else Nx H3) := by
  refine ⟨fun i m H => m = xs.length - i ∧ i ≤ xs.length ∧ Pv i H, ⟨xs.length, by simp, Nat.zero_le _, h0⟩, ?_⟩
  rintro i m H ⟨rfl, hi, p⟩
  have q := hl i H hi p
  by_cases hlt : i < xs.length
  · refine .inr ⟨⟨xs, xs[i], q, by simp [hlt]⟩, Pv (i + 1), fun H' p' => ⟨xs.length - (i + 1), by omega, rfl, hlt, p'⟩, fun x H' y => ?_⟩
    obtain ⟨e, y⟩ := y
    subst e
    exact hs i x _ (y xs q) p
  · have e : i = xs.length := by omega
    subst e
    exact .inl ⟨⟨xs, q, Nat.le_refl _⟩, hd H p⟩
def blkC (N : List Str) (sc scope : Scope) (own : List (Str × Nat)) : Bool :=
  (match scope.kind with | .function => true | _ => false) && (scope.names.all fun y => decide (scope.names.lookup y.1 = some y.2)) && (own.all fun p => decide (N[p.2]? = some p.1)) &&
    (scope.names.all fun y => match y.2 with
      | .free => (match sc.names.lookup y.1 with | some .cell => true | some .free => true | _ => false)
      | .local => decide (y.1 ∈ own.map (·.1)) || decide (y.1 ∉ N)
      | .cell => decide (y.1 ∈ own.map (·.1)) || decide (y.1 ∉ N)
      | _ => true)
theorem blkOk_by {N : List Str} {sc scope : Scope} {own : List (Str × Nat)} (h : blkC N sc scope own = true) : BlkOk N sc scope own := by
  unfold blkC at h
  simp only [Bool.and_eq_true, List.all_eq_true, decide_eq_true_eq] at h
  obtain ⟨⟨⟨h1, h2⟩, h3⟩, h4⟩ := h
  refine ⟨?_, h2, h3, fun y hy e => ?_, fun y hy e => ?_⟩
  · split at h1
    · assumption
    · cases h1
  · have q := h4 y hy
    simp only [e] at q
    split at q <;> first | exact .inl (by assumption) | exact .inr (by assumption) | cases q
  · have q := h4 y hy
    rcases e with e | e <;> (simp only [e, Bool.or_eq_true, decide_eq_true_eq] at q; exact q)
end L2
namespace L2
open PySem PySem.Spec PyProof.Rows
section
variable {prog : Program} {w : World} {A : Around} {R : Result → Shared → Prop} {s : Shared} {elt t0 i0 t1 i1 : Expr} {ifs0 ifs1 : List Expr} {scope : Scope} {pos : Pos} {it acc : Value} {env : Env}
end
section
variable {X : Cx}
end
end L2
namespace L2
open PySem PySem.Spec PyProof.Rows
section
variable {κ : Type} [DecidableEq κ]
def valV (kvs : List (κ × V)) (k : κ) : Option V := (kvs.find? fun kv => decide (kv.1 = k)).map (·.2)
def putK (kvs : List (κ × V)) (k : κ) (v : V) : List (κ × V) :=
  if (kvs.any fun kv => decide (kv.1 = k)) = true then kvs.map (fun kv => if kv.1 = k then (kv.1, v) else kv) else kvs ++ [(k, v)]
def dropK (kvs : List (κ × V)) (k : κ) : List (κ × V) := kvs.filter fun kv => decide (kv.1 ≠ k)
theorem valV_pos {p : κ × V} {r : List (κ × V)} {k : κ} (e : p.1 = k) : valV (p :: r) k = some p.2 := by simp [valV, List.find?_cons, e]
theorem valV_neg {p : κ × V} {r : List (κ × V)} {k : κ} (e : ¬ p.1 = k) : valV (p :: r) k = valV r k := by simp [valV, List.find?_cons, e]
theorem valV_any (k : κ) : ∀ kvs : List (κ × V), (kvs.any fun kv => decide (kv.1 = k)) = (valV kvs k).isSome
  | [] => rfl
  | p :: r => by
    rw [List.any_cons]
    by_cases e : p.1 = k
    · simp only [valV_pos e, decide_eq_true e, Bool.true_or, Option.isSome_some]
    · rw [valV_neg e, decide_eq_false e, Bool.false_or]; exact valV_any k r
theorem RelO.isSome_eq {o : Option V} {u : Option Value} (r : RelO o u) : o.isSome = u.isSome := by
  cases o with
  | none => cases u with
    | none => rfl
    | some _ => exact (show False from r).elim
  | some _ => cases u with
    | none => exact (show False from r).elim
    | some _ => rfl
theorem RelO.getD {o : Option V} {u : Option Value} {d : V} {d' : Value} (r : RelO o u) (rd : RelV d d') : RelV (o.getD d) (u.getD d') := by
  cases o with
  | none => cases u with
    | none => exact rd
    | some _ => exact (show False from r).elim
  | some _ => cases u with
    | none => exact (show False from r).elim
    | some _ => exact r
theorem KV.val {kvs : List (κ × V)} {vs : List (κ × Value)} (r : KV kvs vs) (k : κ) : RelO (valV kvs k) (valueAt vs k) := by
  unfold KV at r
  induction r with
  | nil => exact True.intro
  | @cons p q ps qs h t ih =>
    obtain ⟨h1, h2⟩ := h
    by_cases e : p.1 = k
    · have e' : q.1 = k := h1.symm.trans e
      have b : valueAt (q :: qs) k = some q.2 := by simp [valueAt, List.find?_cons, e']
      rw [valV_pos e, b]; exact h2
    · have e' : ¬ q.1 = k := fun z => e (h1.trans z)
      have b : valueAt (q :: qs) k = valueAt qs k := by simp [valueAt, List.find?_cons, e']
      rw [valV_neg e, b]; exact ih
theorem KV.any {kvs : List (κ × V)} {vs : List (κ × Value)} (r : KV kvs vs) (k : κ) : (kvs.any fun kv => decide (kv.1 = k)) = vs.any fun kv => decide (kv.1 = k) := by
  unfold KV at r
  induction r with
  | nil => rfl
  | cons h t ih => rw [List.any_cons, List.any_cons, ih, h.1]
theorem KV.repl {kvs : List (κ × V)} {vs : List (κ × Value)} (r : KV kvs vs) (k : κ) {y : V} {u : Value} (ry : RelV y u) :
    KV (kvs.map fun kv => if kv.1 = k then (kv.1, y) else kv) (vs.map fun kv => if kv.1 = k then (kv.1, u) else kv) := by
  unfold KV at r ⊢
  induction r with
  | nil => exact .nil
  | @cons p q ps qs h t ih =>
    rw [List.map_cons, List.map_cons]
    refine .cons ?_ ih
    obtain ⟨h1, h2⟩ := h
    by_cases e : p.1 = k
    · rw [if_pos e, if_pos (h1.symm.trans e)]; exact ⟨h1, ry⟩
    · rw [if_neg e, if_neg (fun z => e (h1.trans z))]; exact ⟨h1, h2⟩
theorem KV.put {kvs : List (κ × V)} {vs : List (κ × Value)} (r : KV kvs vs) (k : κ) {y : V} {u : Value} (ry : RelV y u) : KV (putK kvs k y) (stored vs k u) := by
  unfold putK stored
  rw [r.any k]
  by_cases e : (vs.any fun kv => decide (kv.1 = k)) = true
  · rw [if_pos e, if_pos e]; exact r.repl k ry
  · rw [if_neg e, if_neg e]; exact Paired.snoc r ⟨rfl, ry⟩
theorem KV.drop {kvs : List (κ × V)} {vs : List (κ × Value)} (r : KV kvs vs) (k : κ) : KV (dropK kvs k) (without vs k) := by
  unfold KV at r ⊢
  unfold dropK without
  induction r with
  | nil => exact .nil
  | @cons p q ps qs h t ih =>
    obtain ⟨h1, h2⟩ := h
    rw [List.filter_cons, List.filter_cons]
    by_cases e : p.1 = k
    · have a : ¬ decide (p.1 ≠ k) = true := by simp [e]
      have b : ¬ decide (q.1 ≠ k) = true := by simp [h1.symm.trans e]
      rw [if_neg a, if_neg b]; exact ih
    · have e' : ¬ q.1 = k := fun z => e (h1.trans z)
      have a : decide (p.1 ≠ k) = true := by simp [e]
      have b : decide (q.1 ≠ k) = true := by simp [e']
      rw [if_pos a, if_pos b]; exact .cons ⟨h1, h2⟩ ih
theorem KV.length {kvs : List (κ × V)} {vs : List (κ × Value)} (r : KV kvs vs) : kvs.length = vs.length := Paired.length r
end
abbrev KT (H : Hp) : List (List Key × V) → List (List Key × Addr × Value) → Prop := Paired fun p q => p.1 = q.1 ∧ H q.2.1 = some (.tup (p.1.map kV)) ∧ RelV p.2 q.2.2
theorem KT.val {H : Hp} {kvs : List (List Key × V)} {xs : List (List Key × Addr × Value)} (r : KT H kvs xs) (k : List Key) : RelO (valV kvs k) ((atKey xs k).map (·.2)) := by
  induction r with
  | nil => exact True.intro
  | @cons p q ps qs h t ih =>
    obtain ⟨h1, _, h2⟩ := h
    by_cases e : p.1 = k
    · have e' : q.1 = k := h1.symm.trans e
      have b : atKey (q :: qs) k = some q.2 := by simp [atKey, List.find?_cons, e']
      rw [valV_pos e, b]; exact h2
    · have e' : ¬ q.1 = k := fun z => e (h1.trans z)
      have b : atKey (q :: qs) k = atKey qs k := by simp [atKey, List.find?_cons, e']
      rw [valV_neg e, b]; exact ih
theorem KT.repl {H : Hp} {kvs : List (List Key × V)} {xs : List (List Key × Addr × Value)} (r : KT H kvs xs) (k : List Key) {y : V} {u : Value} (ry : RelV y u) :
    KT H (kvs.map fun kv => if kv.1 = k then (kv.1, y) else kv) (xs.map (putAt k u)) := by
  induction r with
  | nil => exact .nil
  | @cons p q ps qs h t ih =>
    rw [List.map_cons, List.map_cons]
    refine .cons ?_ ih
    obtain ⟨h1, h2, h3⟩ := h
    unfold putAt
    by_cases e : p.1 = k
    · rw [if_pos e, if_pos (h1.symm.trans e)]; exact ⟨h1, h2, ry⟩
    · rw [if_neg e, if_neg (fun z => e (h1.trans z))]; exact ⟨h1, h2, h3⟩
theorem KT.put {H : Hp} {kvs : List (List Key × V)} {xs : List (List Key × Addr × Value)} (r : KT H kvs xs) (k : List Key) {b : Addr} {y : V} {u : Value} (hb : H b = some (.tup (k.map kV))) (ry : RelV y u) :
    KT H (putK kvs k y) (storedH xs k b u) := by
  have e : (kvs.any fun kv => decide (kv.1 = k)) = (atKey xs k).isSome := by
    rw [valV_any, (r.val k).isSome_eq, Option.isSome_map]
  unfold putK storedH
  rw [e]
  by_cases q : (atKey xs k).isSome = true
  · rw [if_pos q, if_pos q]; exact r.repl k ry
  · rw [if_neg q, if_neg q]; exact Paired.snoc r ⟨rfl, hb, ry⟩
theorem KT.keeps {H H' : Hp} {kvs : List (List Key × V)} {xs : List (List Key × Addr × Value)} (r : KT H kvs xs) (ht : ∀ b ys, H b = some (.tup ys) → H' b = some (.tup ys)) : KT H' kvs xs :=
  Paired.mapP r fun _ _ z => ⟨z.1, ht _ _ z.2.1, z.2.2⟩
section
variable {P : Program} {w : World} {H : Hp} {h : Heap} {a : Addr}
end
def DGet (H : Hp) (a : Addr) (y : V) (r : Option V) : Prop :=
  (∃ kvs k, Rd H a (.dK kvs) ∧ y = kV k ∧ r = valV kvs k) ∨ ∃ kvs k b, Rd H a (.dT kvs) ∧ y = .ref b ∧ H b = some (.tup (k.map kV)) ∧ r = valV kvs k
def DPut (H : Hp) (a : Addr) (y v : V) (H' : Hp) : Prop :=
  (∃ kvs k, H a = some (.dK kvs) ∧ y = kV k ∧ kvs.length < sizeLine ∧ H' = upd H a (.dK (putK kvs k v))) ∨
  ∃ kvs k b, H a = some (.dT kvs) ∧ y = .ref b ∧ H b = some (.tup (k.map kV)) ∧ kvs.length < sizeLine ∧ H' = upd H a (.dT (putK kvs k v))
theorem DGet.k {H : Hp} {a : Addr} {kvs : List (Key × V)} {k : Key} (e : H a = some (.dK kvs)) : DGet H a (kV k) (valV kvs k) := .inl ⟨kvs, k, .inl e, rfl, rfl⟩
theorem DGet.t {H : Hp} {a b : Addr} {kvs : List (List Key × V)} {k : List Key} (e : H a = some (.dT kvs)) (eb : H b = some (.tup (k.map kV))) : DGet H a (.ref b) (valV kvs k) := .inr ⟨kvs, k, b, .inl e, rfl, eb, rfl⟩
theorem DPut.k {H : Hp} {a : Addr} {kvs : List (Key × V)} {k : Key} {v : V} (e : H a = some (.dK kvs)) (hl : kvs.length < sizeLine) : DPut H a (kV k) v (upd H a (.dK (putK kvs k v))) := .inl ⟨kvs, k, e, rfl, hl, rfl⟩
theorem DPut.t {H : Hp} {a b : Addr} {kvs : List (List Key × V)} {k : List Key} {v : V} (e : H a = some (.dT kvs)) (eb : H b = some (.tup (k.map kV))) (hl : kvs.length < sizeLine) :
    DPut H a (.ref b) v (upd H a (.dT (putK kvs k v))) := .inr ⟨kvs, k, b, e, rfl, eb, hl, rfl⟩
section
variable {X : Cx} {pins : List (Addr × Obj)} {σ : St} {H : Hp} {s : Shared} {a : Addr} {y v : V} {u r : Value} {o : Option V} {A : Around} {E : Value → Shared → Prop}
end
section
variable {X : Cx} {pins : List (Addr × Obj)} {σ : St} {H : Hp} {s : Shared} {a : Addr} {kvs : List (Key × V)} {k : Key} {u : Value} {A : Around} {E : Value → Shared → Prop}
end
section
variable {X : Cx} {o i e value : Expr} {pos pos' tpos : Pos} {td ty tv : TE}
end
section
variable {X : Cx} {pos : Pos}
end
section
variable {X : Cx} {pins : List (Addr × Obj)} {σ : St} {H : Hp} {s : Shared} {a : Addr} {y d : V} {u r : Value} {o : Option V} {A : Around} {E : Value → Shared → Prop}
end
section
variable {X : Cx} {o e f : Expr} {apos cpos : Pos} {td ty tx : TE}
end
section
variable {X : Cx} {pins : List (Addr × Obj)} {σ : St} {H : Hp} {s : Shared} {a : Addr} {kvs : List (Key × V)} {A : Around} {E : Value → Shared → Prop}
end
section
variable {X : Cx} {pins : List (Addr × Obj)} {σ : St} {H : Hp} {s : Shared} {a : Addr} {y : V} {u : Value} {A : Around} {E : Value → Shared → Prop}
end
end L2
namespace L2
open PySem PySem.Spec PyProof.Rows
section
variable {prog : Program} {w : World} {A : Around} {E : Value → Shared → Prop}
end
section
variable {X : Cx}
end
end L2
namespace L2
open PySem PySem.Spec PyProof.Rows
section
variable {X : Cx} {pins : List (Addr × Obj)} {σ : St} {H : Hp} {s : Shared} {h' : Heap}
end
section
variable {X : Cx}
theorem pi_one {tg : Expr} {pins : List (Addr × Obj)} {σ : St} {H : Hp} {s : Shared} {R : It → Hp → Prop} {J : It} {tn : Nat → Heap → Prop} {tk : Nat} (I : Inv X pins σ H s) (o : Obj)
    (T : Turn X.prog X.w X.K tg J [s.heap.objs.size] s.heap.objs.size tn) (st : tn 0 (s.heap.push o)) (q : R J H) : PIE X pins σ tg R (.ref s.heap.objs.size) { s with heap := s.heap.push o, toks := tk } := by
  refine ⟨s.heap.objs.size, [s.heap.objs.size], tn, J, H, rfl, I.kept fun b ob e => Heap.get?_push_of_some _ e, T, st, fun b hb => ?_, q⟩
  have e : b = s.heap.objs.size := by simpa using hb
  subst e
  exact I.fpOk (Nat.le_refl _) (I.hok.fresh (Nat.le_refl _))
end
def Itc (lo c : Int) (n : Nat) : It := ⟨fun i _ => i < n, fun i H x H' => H' = H ∧ x = .int (lo + (i : Nat) * c), fun i _ => n ≤ i⟩
theorem turn_rangeC {P : Program} {w : World} {K : PySem.W.Frag} {tg : Expr} (it : Addr) (lo c : Int) (n : Nat) : Turn P w K tg (Itc lo c n) [it] it (fun i h => IsRangeIter h it (lo + (i : Nat) * c) ((n : Int) - (i : Nat)) c) where
  mem := by simp
  obj := fun i h st b hb => by
    have e : b = it := by simpa using hb
    subst e
    exact ⟨_, st, fun v z => nomatch z⟩
  keep := fun i h h' st k => k it (by simp) _ st
  item := by
    intro X hP hw hK hc i pins s σ H E I hf st hg
    subst hP hw hK
    obtain ⟨f0, f1, f2, f3, f4, f5⟩ := hf it (by simp)
    have W := Walks.range (prog := X.prog) (w := X.w) (I.ok.hd hc) it lo c n
    refine W.item i s _ _ hg st fun v h' tk hv st' kk => ?_
    obtain ⟨t, rfl⟩ := hv
    have I1 : Inv X pins σ H { s with heap := h', toks := tk } := I.turned (fun b o hb e => kk b o (by simpa using hb) e) f0 f1 f3 f4 f5
    exact ⟨_, rfl, go_of (s := { s with heap := h', toks := tk }) (n := "range_iterator") st' rfl rfl (by decide) ⟨.int (lo + (i : Nat) * c), H, I1, ⟨t, rfl⟩, ⟨rfl, rfl⟩, st', fun b hb => (hf b hb).1⟩⟩
  done := by
    intro X hP hw hK hc i pins s σ H E I hf st hg
    subst hP hw hK
    obtain ⟨f0, f1, f2, f3, f4, f5⟩ := hf it (by simp)
    exact wpAny_pyNext_range_end (I.ok.hd hc) st (by have : n ≤ i := hg; omega) fun h' eb => ⟨rfl, I.turned (t' := s.toks) (fun b o hb e => eb b o hb e) f0 f1 f3 f4 f5⟩
  self := fun A i s Q E st h => wpAny_pyIter_rangeiter st h
def RgC (i j c : Int) (n : Nat) : Prop := c ≠ 0 ∧ c.natAbs < 1073741824 ∧ Builtin.Range.small i j c = true ∧ Builtin.Range.rangeSize i j c = n
theorem RgC.neg {i j : Int} (ha : -(2 ^ 62) ≤ i) (ha' : i < 2 ^ 62) (hb : -(2 ^ 62) ≤ j) (hb' : j < 2 ^ 62) : RgC i j (-1) (i - j).toNat :=
  ⟨by decide, by decide, PySem.W.small_down ha ha' hb hb', PySem.W.rangeSize_downNat i j⟩
def iRng3 (ta : TA) : TI := fun σ H R => ta σ H fun vs H1 => ∃ (i j c : Int) (n : Nat), vs = [.int i, .int j, .int c] ∧ RgC i j c n ∧ R (Itc i c n) H1
section
variable {X : Cx} {tg : Expr}
theorem pi_range3 {a b c : Expr} {ta : TA} {p pos : Pos} (hg : Gl X "range") (hm : X.mg "range" = none) (ha : PA X [a, b, c] ta)
    (hs : starEach [a, b, c] X.env = (false, eval a X.env) :: starEach [b, c] X.env := by rfl) (hpl : (backTo pos (starEach [b, c] X.env)).any (·.1) = false := by rfl) :
    PI X tg (.Call (.Name "range" p) [a, b, c] [] pos) (iRng3 ta) := by
  intro pins s σ H R I h
  refine Call_ (ld_blt I hg hm boot_range (PyProof.Rows.callWith_type1 (thn (ha pos pins s σ H _ I h) fun us s1 ⟨vs, H1, I1, r1, q1⟩ => ?_) hs hpl))
  obtain ⟨i, j, k, n, e, ⟨c0, c1, c2, c3⟩, q⟩ := q1
  subst e
  cases r1 with
  | cons r rr =>
    cases rr with
    | cons r' rr =>
      cases rr with
      | cons r'' rr =>
        cases rr
        obtain ⟨t, rfl⟩ := r
        obtain ⟨t', rfl⟩ := r'
        obtain ⟨t'', rfl⟩ := r''
        refine call_range_3 c0 ?_ (.inl (PyProof.noPylong_small c1))
        refine wpAny_pyIter_range (IsRange.new ..) c2 ?_
        have I2 : Inv X pins σ H1 { s1 with heap := s1.heap.push { cls := .type "range", data := .fields #[.int i t, .int j t', .int k t''] } } := I1.kept (t' := s1.toks) fun b o e => Heap.get?_push_of_some _ e
        refine pi_one (tk := s1.toks) I2 _ (turn_rangeC _ i k n) ?_ q
        have e1 : i + ((0 : Nat) : Int) * k = i := by simp
        have e2 : (n : Int) - ((0 : Nat) : Int) = Builtin.Range.rangeSize i j k := by rw [c3]; simp
        show IsRangeIter _ _ (i + ((0 : Nat) : Int) * k) ((n : Int) - ((0 : Nat) : Int)) k
        rw [e1, e2]
        exact Heap.get?_push_size _ rfl
end
theorem for_rangeC {lo c : Int} {n : Nat} {g : TG} {tb : TS} {D : Ends} {σ : St} {H : Hp} (Pv : Nat → St → Hp → Prop) (h0 : Pv 0 σ H)
    (hs : ∀ i σ H, i < n → Pv i σ H → g (.int (lo + (i : Nat) * c)) σ H fun σ2 H2 => tb { D with nx := Pv (i + 1), ct := Pv (i + 1), bk := D.nx } σ2 H2) (hd : ∀ σ H, Pv n σ H → D.nx σ H) :
    ∃ W : Nat → Nat → St → Hp → Prop, (∃ m, W 0 m σ H) ∧ ∀ i m σ H, W i m σ H →
      ((Itc lo c n).stop i H ∧ D.nx σ H) ∨ ((Itc lo c n).go i H ∧ ∃ N : St → Hp → Prop, (∀ σ' H', N σ' H' → ∃ m', m' < m ∧ W (i + 1) m' σ' H') ∧ ∀ x H', (Itc lo c n).yld i H x H' → g x σ H' fun σ2 H2 => tb { D with nx := N, ct := N, bk := D.nx } σ2 H2) := by
  refine ⟨fun i m σ H => m = n - i ∧ i ≤ n ∧ Pv i σ H, ⟨n, by simp, Nat.zero_le _, h0⟩, ?_⟩
  rintro i m σ H ⟨rfl, hi, p⟩
  by_cases hlt : i < n
  · refine .inr ⟨hlt, Pv (i + 1), fun σ' H' p' => ⟨n - (i + 1), by omega, rfl, hlt, p'⟩, fun x H' y => ?_⟩
    obtain ⟨e, y⟩ := y
    subst e y
    exact hs i σ _ hlt p
  · have e : i = n := by omega
    subst e
    exact .inl ⟨Nat.le_refl _, hd σ H p⟩
section
variable {X : Cx} {tg : Expr}
end
def Its (x : Str) : It := ⟨fun i _ => i < x.cps.size, fun i H v H' => H' = H ∧ ∃ c, x.cps[i]? = some c ∧ v = .str ⟨#[c]⟩, fun i _ => x.cps.size ≤ i⟩
theorem turn_str {P : Program} {w : World} {K : PySem.W.Frag} {tg : Expr} (it : Addr) (x : Str) (t : Tok) (ty : String) (hty : ty = "str_ascii_iterator" ∨ ty = "str_iterator") :
    Turn P w K tg (Its x) [it] it (fun i h => h.IsStrIter it ty x t i) where
  mem := by simp
  obj := fun i h st b hb => by
    have e : b = it := by simpa using hb
    subst e
    obtain ⟨o, e, c, d⟩ := st
    exact ⟨o, e, fun v z => by rw [d] at z; cases z⟩
  keep := fun i h h' st k => let ⟨o, ho, r⟩ := st; ⟨o, k it (by simp) o ho, r⟩
  item := by
    intro X hP hw hK hc i pins s σ H E I hf st hg
    subst hP hw hK
    obtain ⟨f0, f1, f2, f3, f4, f5⟩ := hf it (by simp)
    have W : Walks X.prog X.w X.A it [it] [it] x.cps.size (SignAt x) (fun i h => h.IsStrIter it ty x t i) := by
      rcases hty with e | e
      · rw [e]; exact Walks.strAscii (I.ok.hd hc) it x t
      · rw [e]; exact Walks.strWide (I.ok.hd hc) it x t
    have hno : ["enumerate", "zip", "dict_itemiterator", "dict_reverseitemiterator", "odict_iterator", "itertools.zip_longest", "itertools.pairwise"].contains ty = false := by
      rcases hty with e | e
      · rw [e]; decide
      · rw [e]; decide
    refine W.item i s _ _ hg st fun v h' tk hv st' kk => ?_
    obtain ⟨c, u, hcx, rfl⟩ := hv
    have I1 : Inv X pins σ H { s with heap := h', toks := tk } := I.turned (fun b o hb e => kk b o (by simpa using hb) e) f0 f1 f3 f4 f5
    obtain ⟨oi, e, cc, dd⟩ := id st'
    exact ⟨_, rfl, go_of (s := { s with heap := h', toks := tk }) e cc dd hno ⟨.str ⟨#[c]⟩, H, I1, ⟨u, rfl⟩, ⟨rfl, c, hcx, rfl⟩, st', fun b hb => (hf b hb).1⟩⟩
  done := by
    intro X hP hw hK hc i pins s σ H E I hf st hg
    subst hP hw hK
    obtain ⟨f0, f1, f2, f3, f4, f5⟩ := hf it (by simp)
    have hx : x.cps[i]? = none := Array.getElem?_eq_none hg
    rcases hty with e | e
    · rw [e] at st
      exact wpAny_pyNext_ascii_end (I.ok.hd hc) st hx fun h' eb => ⟨rfl, I.turned (t' := s.toks) (fun b o hb e => eb b o hb e) f0 f1 f3 f4 f5⟩
    · rw [e] at st
      exact wpAny_pyNext_wide_end (I.ok.hd hc) st hx fun h' eb => ⟨rfl, I.turned (t' := s.toks) (fun b o hb e => eb b o hb e) f0 f1 f3 f4 f5⟩
  self := fun A i s Q E st h => by
    rcases hty with e | e
    · rw [e] at st; exact wpAny_pyIter_striter_ascii st h
    · rw [e] at st; exact wpAny_pyIter_striter_wide st h
def iStr (te : TE) : TI := fun σ H R => te σ H fun v H1 => ∃ x, v = .str x ∧ R (Its x) H1
theorem pi_str {X : Cx} {tg e : Expr} {te : TE} (he : PE X e te) : PI X tg e (iStr te) := by
  intro pins s σ H R I h
  refine thn (he pins s σ H _ I h) fun v s1 ⟨y, H1, I1, r1, x, ex, q⟩ => ?_
  subst ex
  obtain ⟨t, rfl⟩ := r1
  cases ha : x.cps.all (· < 128)
  · exact wpAny_pyIter_wide ha (pi_one (tk := s1.toks) I1 _ (turn_str _ x t "str_iterator" (.inr rfl)) ⟨_, Heap.get?_push_size _ rfl, rfl, rfl⟩ q)
  · exact wpAny_pyIter_ascii ha (pi_one (tk := s1.toks) I1 _ (turn_str _ x t "str_ascii_iterator" (.inl rfl)) ⟨_, Heap.get?_push_size _ rfl, rfl, rfl⟩ q)
section
variable {prog : Program} {w : World} {A : Around} {E : Value → Shared → Prop} {s : Shared}
end
section
variable {X : Cx} {pins : List (Addr × Obj)} {σ : St} {H : Hp} {s : Shared} {d : Addr} {o : Obj}
end
section
variable {P : Program} {w : World} {K : PySem.W.Frag} {tg : Expr} {d : Addr} {o : Obj} {es : Array DictEntry} {ep : Nat}
end
section
variable {X : Cx} {tg e : Expr} {td : TE} {apos cpos : Pos}
end
end L2
section 
namespace Bits
open PySem PyProof.Rows
end Bits
end 
section 
namespace TL
open PySem PySem.Builtin PySem.Builtin.Str PySem.StrLaws
abbrev tl (x : Str) : List Nat := x.cps.toList
theorem len_tl (x : Str) : x.length = (tl x).length := by simp [tl, Str.length]
def pre (S l : List Nat) : Bool := l.take S.length == S
def par (S : List Nat) : List Nat → List Nat → Option (List Nat × List Nat)
  | _, [] => none
  | acc, c :: r => if pre S (c :: r) = true then some (acc, (c :: r).drop S.length) else par S (acc ++ [c]) r
theorem len1 {y : Str} (hy : tl y ≠ []) : 1 ≤ y.length := by
  have e2 : 0 < (tl y).length := List.length_pos_iff.mpr hy
  rw [len_tl y]
  exact e2
end TL
end 
namespace L2
open PySem PySem.Spec PyProof.Rows
section
variable {X : Cx} {pins : List (Addr × Obj)} {σ : St} {H : Hp} {s : Shared} {Q : VK}
end
section
variable {X : Cx}
end
section
variable {X : Cx} {o e : Expr} {to te : TE}
end
end L2
namespace L2
open PySem PySem.Spec PyProof.Rows
section
variable {X : Cx}
end
end L2
namespace Att
open PySem PySem.W PySem.Calls PyProof.Rows
section
variable {prog : Program} {w : World} {A : Around} {E : Value → Shared → Prop} {s : Shared} {K : Frag}
end
end Att
namespace L2
open PySem PySem.Spec PyProof.Rows
end L2
namespace L2
open PySem PySem.Spec PyProof.Rows
end L2
/- THE LAST THEOREM (shape; LID, My.* are yours):
   My.Adr: a structure of the addresses that your layer names (classes, functions); My.Txt K t: a structure (Prop) of the equations over K;
   My.txt_mk : {K} {implicit addresses ..} (e1 : nsIn K mainGlobals "law" = some (some (.ref f))) (e2 : K.lookup f = some ⟨oc, od, .func (fnOf "law" "law" params body scope dV kV doc pm an cdv ct), sl⟩) (e3 : codeIn K cdv "law" = true) .. : ∃ t, My.Txt K t
set_option maxRecDepth 100000 in
set_option maxHeartbeats 0 in
(the tactic k_is has no namespace: write k_is) -/
namespace L2
open PySem PySem.Spec PyProof.Rows
def inClass (s : Stmt) (j : Nat) : Stmt := match s with
  | .ClassDef _ _ _ body _ _ _ _ _ _ _ => body.getD j (.Pass ⟨0, 0, 0, 0⟩)
  | _ => .Pass ⟨0, 0, 0, 0⟩
def defArgs (s : Stmt) : Arguments := match s with
  | .FunctionDef _ a _ _ _ _ _ _ _ _ => a
  | _ => { posonlyargs := [], args := [], vararg := none, kwonlyargs := [], kw_defaults := [], kwarg := none, defaults := [] }
def defBody (s : Stmt) : List Stmt := match s with
  | .FunctionDef _ _ b _ _ _ _ _ _ _ => b
  | _ => []
def defScope (s : Stmt) : Scope := match s with
  | .FunctionDef _ _ _ _ _ _ sc _ _ _ => sc
  | _ => { kind := .function, names := [], isGenerator := false, isCoroutine := false }
abbrev CX0 : CXT := fun _ _ _ _ _ _ => False
abbrev E0 : XK := fun _ _ _ => False
theorem pass0 {X : Cx} : Passes CX0 X E0 := fun _ _ _ _ _ _ _ h => h.elim
structure Fun (K : PySem.W.Frag) (x qual : Str) (st : Stmt) (f : Addr) (fd : FuncData) : Prop where
  ex : ∃ (oc : Value) (od : Option Addr) (kV doc pm : Value) (an : Option Addr) (cdv ct : Value) (osl : Array (Option Value)),
    fd = PySem.W.fnOf x qual (defArgs st) (defBody st) (defScope st) .none kV doc pm an cdv ct ∧ K.lookup f = some ⟨oc, od, .func fd, osl⟩ ∧ PySem.W.codeIn K cdv qual = true
  kp : PySem.W.keepIn K (.ref f) = true
section
variable {P : Program} {w : World} {K : PySem.W.Frag} {mg : Str → Option Value} {base : Heap}
theorem Fun.ok {x qual : Str} {st : Stmt} {f : Addr} {fd : FuncData} {N ps : List Str} {k : Nat} {sp : Sp} (F : Fun K x qual st f fd) (S : FnScope N ps (defScope st)) (len : ∀ vs H Q E, sp vs H Q E → vs.length = ps.length)
    (hbody : ∀ (cdv : Value) (A : Around) (outer : List Env) (s : Shared) (H : Hp) (vs : List V) (Q : VK) (E : XK), Room k (A.deeper (envOfC qual (defScope st) s.heap.objs.size f cdv)) → sp vs H Q E →
      ∃ t, PSs (cxOf CX0 P w K mg base N qual (defScope st) f cdv A outer s H E).nox (defBody st) t ∧ t { nx := fun _ H' => Q .non H', rt := Q } (start N vs) H) : FnOk P w K mg base CX0 (k + 1) f fd ps sp := by
  obtain ⟨oc, od, kV, doc, pm, an, cdv, ct, osl, rfl, lk, hcd⟩ := F.ex
  refine fn_of lk hcd S len fun A outer s H vs Q E hr hsp => ?_
  obtain ⟨t, h, q⟩ := hbody cdv A outer s H vs Q E hr hsp
  exact ⟨t, h.nox, q⟩
theorem Fun.binds {x qual : Str} {st : Stmt} {f : Addr} {fd : FuncData} {ps : List Str} (F : Fun K x qual st f fd)
    (h : ∀ (kV doc pm : Value) (an : Option Addr) (cdv ct : Value) (us : List Value), us.length = ps.length → bindArgs (PySem.W.fnOf x qual (defArgs st) (defBody st) (defScope st) .none kV doc pm an cdv ct) ⟨us, []⟩ = pure (ps.zip us)) : Binds K fd ps [] := by
  obtain ⟨oc, od, kV, doc, pm, an, cdv, ct, osl, rfl, lk, hcd⟩ := F.ex
  exact .all (h kV doc pm an cdv ct)
theorem fun_mk {x qual : Str} {st : Stmt} {f : Addr} {oc : Value} {od an : Option Addr} {osl : Array (Option Value)} {kV doc pm cdv ct : Value} (l : K.lookup f = some ⟨oc, od, .func (PySem.W.fnOf x qual (defArgs st) (defBody st) (defScope st) .none kV doc pm an cdv ct), osl⟩)
    (c : PySem.W.codeIn K cdv qual = true) (k : PySem.W.keepIn K (.ref f) = true) : Fun K x qual st f (PySem.W.fnOf x qual (defArgs st) (defBody st) (defScope st) .none kV doc pm an cdv ct) := ⟨⟨oc, od, kV, doc, pm, an, cdv, ct, osl, rfl, l, c⟩, k⟩
end
theorem hu_of {A : Around} {k : Nat} (hr : Room k A) : A.units + 1 < cLine := Nat.lt_of_le_of_lt (Nat.add_le_add_left (by decide : 1 ≤ 64) _) hr.units
theorem small1000 {n : Nat} (h : n ≤ 1000) : n < sizeLine := Nat.lt_of_le_of_lt h (by decide)
section
variable {X : Cx}
theorem pv (i : Nat) {x : Str} {pos : Pos} (hN : X.N[i]? = some x := by rfl) (hv : Vis X.env.scope x := by first | exact Or.inl rfl | exact Or.inr (Or.inl rfl) | exact Or.inr (Or.inr rfl)) (hd : (x == ("__debug__" : Str)) = false := by decide)
    (hcd : (x == ("__classdict__" : Str)) = false := by decide) : PE X (.Name x pos) (tVar i) := pe_var hN hv hd hcd
end
theorem iteF {A B : Prop} (h : B) : if false = true then A else B := by
  rw [if_neg Bool.false_ne_true]
  exact h
theorem iteT {A B : Prop} (h : A) : if true = true then A else B := by
  rw [if_pos rfl]
  exact h
theorem ite2 {c A B : Prop} [Decidable c] (h1 : c → A) (h2 : ¬ c → B) : if c then A else B := by
  by_cases h : c
  · rw [if_pos h]
    exact h1 h
  · rw [if_neg h]
    exact h2 h
theorem iteNS {c A B : Prop} [Decidable c] (hc : c) (h : B) : if (!decide c) = true then A else B := by
  rw [decide_eq_true hc]
  exact iteF h
def Same (H H' : Hp) : Prop := ∀ b o, H b = some o → H' b = some o
theorem Same.refl (H : Hp) : Same H H := fun _ _ h => h
theorem Same.trans {H H1 H2 : Hp} (a : Same H H1) (b : Same H1 H2) : Same H H2 := fun c o h => b c o (a c o h)
theorem Same.free {H H' : Hp} (e : Same H H') {l : Addr} (h : H' l = Option.none) : H l = Option.none := by
  cases q : H l with
  | none => rfl
  | some o =>
    rw [e l o q] at h
    cases h
theorem Same.seq {K : PySem.W.Frag} {H H' : Hp} {a : Addr} {xs : List V} (e : Same H H') (h : SqL K H a xs) : SqL K H' a xs := by
  rcases h with (h | ⟨o, h⟩) | h
  · exact .inl (.inl (e _ _ h))
  · exact .inl (.inr ⟨o, e _ _ h⟩)
  · exact .inr h
section
variable {κ : Type} [DecidableEq κ]
end
theorem at_of {xs : List V} {z : Int} {j : Nat} {v : V} (e : z = (j : Int)) (h : xs[j]? = some v) : atI xs z = some v := by
  rw [e]
  exact atI_nat h
theorem nd_ix {α : Type} {l : List α} (hN : l.Nodup) {i j : Nat} {x : α} (a : l[i]? = some x) (b : l[j]? = some x) : i = j := by
  obtain ⟨h1, e1⟩ := List.getElem?_eq_some_iff.mp a
  obtain ⟨h2, e2⟩ := List.getElem?_eq_some_iff.mp b
  exact (List.getElem_inj hN).mp (e1.trans e2.symm)
theorem sum_set : ∀ {l : List Int} {j : Nat} {z y : Int}, l[j]? = some z → (l.set j y).sum = l.sum - z + y
  | [], j, z, y, h => by simp at h
  | a :: r, 0, z, y, h => by
    have e : a = z := Option.some.inj h
    subst e
    show (y :: r).sum = (a :: r).sum - a + y
    rw [List.sum_cons, List.sum_cons]
    omega
  | a :: r, j + 1, z, y, h => by
    have ih := sum_set (l := r) (j := j) (z := z) (y := y) h
    show (a :: r.set j y).sum = (a :: r).sum - z + y
    rw [List.sum_cons, List.sum_cons, ih]
    omega
theorem sum_take : ∀ {l : List Int} {i : Nat} {z : Int}, l[i]? = some z → (l.take (i + 1)).sum = (l.take i).sum + z
  | [], i, z, h => by simp at h
  | a :: r, 0, z, h => by
    have e : a = z := Option.some.inj h
    subst e
    show ([a] : List Int).sum = ([] : List Int).sum + a
    rw [List.sum_cons]
    exact Int.add_comm _ _
  | a :: r, i + 1, z, h => by
    have ih := sum_take (l := r) (i := i) (z := z) h
    show (a :: r.take (i + 1)).sum = (a :: r.take i).sum + z
    rw [List.sum_cons, List.sum_cons, ih]
    omega
theorem Same.made {H H1 : Hp} {x dx C : Addr} (nx : H x = Option.none) (nd : H dx = Option.none) (k : ∀ b o, (upd (upd H dx (.own x)) x (.ins C dx [])) b = some o → b ≠ x → H1 b = some o) : Same H H1 := fun b o e =>
  k b o (by rw [upd_ne (ne_of_none e nx), upd_ne (ne_of_none e nd)]; exact e) (ne_of_none e nx)
end L2
section
set_option Elab.async false
set_option linter.all false
set_option maxRecDepth 100000
set_option maxHeartbeats 2000000
namespace L2
open PySem PySem.Spec PyProof.Rows
open PySem.W (WData Codec OpenSpec Well WellAll ReadsW ReadsAllW)
mutual
inductive Dw (K : PySem.W.Frag) (H : Hp) : V → WData → Prop
  | non : Dw K H .non .none
  | bl (b : Bool) : Dw K H (.bl b) (.bool b)
  | int (i : Int) : Dw K H (.int i) (.int i)
  | str (x : Str) : Dw K H (.str x) (.str x)
  | byt (b : Array UInt8) : Dw K H (.byt b) (.bytes b.toList)
  | lst {a : Addr} {xs : List V} {ds : List WData} : SqL K H a xs → DwAll K H xs ds → Dw K H (.ref a) (.list ds)
  | tup {a : Addr} {xs : List V} {ds : List WData} : SqT K H a xs → DwAll K H xs ds → Dw K H (.ref a) (.tuple ds)
inductive DwAll (K : PySem.W.Frag) (H : Hp) : List V → List WData → Prop
  | nil : DwAll K H [] []
  | cons {v : V} {vs : List V} {d : WData} {ds : List WData} : Dw K H v d → DwAll K H vs ds → DwAll K H (v :: vs) (d :: ds)
end
theorem dw_ints {K : PySem.W.Frag} {H : Hp} : ∀ ns : List Int, DwAll K H (ns.map V.int) (ns.map WData.int)
  | [] => .nil
  | n :: r => .cons (.int n) (dw_ints r)
theorem ints_dw {K : PySem.W.Frag} {H : Hp} : ∀ (ns : List Int) (xs : List V), DwAll K H xs (ns.map WData.int) → xs = ns.map V.int
  | [], xs, h => by
    cases h
    rfl
  | n :: r, xs, h => by
    cases h with
    | cons h1 h2 =>
      cases h1
      rw [ints_dw r _ h2] <;> rfl
section
variable {P : Program} {w : World} {K : PySem.W.Frag} {H : Hp} {h : Heap} {R : PySem.W.WRecords} {cl : Str → Option Addr}
theorem sqL_at {a : Addr} {xs : List V} (hok : HOk P w H h) (KX : K.In h) (q : SqL K H a xs) : ∃ (its : List Value) (o : Obj) (n : Nat), Vals xs its ∧ h.get? a = some o ∧ o.cls = .type "list" ∧ o.data = .seq its.toArray n := by
  rcases q with q | ⟨o, its, n, e, hc, _, hd, _, hv⟩
  · obtain ⟨_, its, n, hv, e⟩ := (show ObjOk P w H h a (.lst xs) from q.ok hok)
    exact ⟨its, _, n, hv, e, rfl, rfl⟩
  · exact ⟨its.toList, o, n, hv, KX _ _ e, hc, by simp [hd]⟩
theorem sqT_at {a : Addr} {xs : List V} (hok : HOk P w H h) (KX : K.In h) (q : SqT K H a xs) : ∃ (its : List Value) (o : Obj) (n : Nat), Vals xs its ∧ h.get? a = some o ∧ o.cls = .type "tuple" ∧ o.data = .seq its.toArray n := by
  rcases q with q | ⟨o, its, n, e, hc, hd, _, hv⟩
  · obtain ⟨_, its, hv, o, e, hc, n, hd⟩ := (show ObjOk P w H h a (.tup xs) from q.ok hok)
    exact ⟨its, o, n, hv, e, hc, hd⟩
  · exact ⟨its.toList, o, n, hv, KX _ _ e, hc, by simp [hd]⟩
mutual
theorem Dw.reads (hok : HOk P w H h) (KX : K.In h) : ∀ (d : WData) (v : V) (u : Value), Dw K H v d → RelV v u → ∃ as, ReadsW R cl h u d as
  | .none, _, _, x, r => by
    cases x
    cases r
    exact ⟨_, ReadsW.none⟩
  | .bool b, _, _, x, r => by
    cases x
    cases r
    exact ⟨_, ReadsW.bool b⟩
  | .int i, _, _, x, r => by
    cases x
    obtain ⟨t, rfl⟩ := r
    exact ⟨_, ReadsW.int i t⟩
  | .str s, _, _, x, r => by
    cases x
    obtain ⟨t, rfl⟩ := r
    exact ⟨_, ReadsW.str s t⟩
  | .bytes b, _, _, x, r => by
    cases x
    obtain ⟨t, rfl⟩ := r
    exact ⟨_, ReadsW.bytes _ t⟩
  | .list ds, _, _, x, r => by
    cases x with
    | lst hs ha =>
      cases r
      obtain ⟨its, o, n, rv, ho, hc, hd⟩ := sqL_at hok KX hs
      obtain ⟨as, hr⟩ := Dw.readsAll hok KX ds _ its ha rv
      exact ⟨_, ReadsW.list ho hc hd hr⟩
  | .tuple ds, _, _, x, r => by
    cases x with
    | tup hs ha =>
      cases r
      obtain ⟨its, o, n, rv, ho, hc, hd⟩ := sqT_at hok KX hs
      obtain ⟨as, hr⟩ := Dw.readsAll hok KX ds _ its ha rv
      exact ⟨_, ReadsW.tuple ho hc hd hr⟩
  | .float _, _, _, x, _ => by cases x
  | .dict _, _, _, x, _ => by cases x
  | .bytearray _, _, _, x, _ => by cases x
  | .set _, _, _, x, _ => by cases x
  | .frozenset _, _, _, x, _ => by cases x
  | .obj _ _, _, _, x, _ => by cases x
theorem Dw.readsAll (hok : HOk P w H h) (KX : K.In h) : ∀ (ds : List WData) (vs : List V) (us : List Value), DwAll K H vs ds → Vals vs us → ∃ as, ReadsAllW R cl h us ds as
  | [], _, _, x, r => by
    cases x
    cases r
    exact ⟨_, ReadsAllW.nil⟩
  | d :: ds, _, _, x, r => by
    cases x with
    | cons h1 h2 =>
      cases r with
      | cons r1 r2 =>
        obtain ⟨as, q1⟩ := Dw.reads hok KX d _ _ h1 r1
        obtain ⟨bs, q2⟩ := Dw.readsAll hok KX ds _ _ h2 r2
        exact ⟨_, ReadsAllW.cons q1 q2⟩
end
end
mutual
def plW : WData → Bool
  | .none => true
  | .bool _ => true
  | .int _ => true
  | .str _ => true
  | .bytes _ => true
  | .list xs => plWs xs
  | .tuple xs => plWs xs
  | _ => false
def plWs : List WData → Bool
  | [] => true
  | x :: r => plW x && plWs r
end
theorem plWs_map {α : Type} {f : α → WData} (h : ∀ a, plW (f a) = true) : ∀ l : List α, plWs (l.map f) = true
  | [] => rfl
  | x :: r => by
    show (plW (f x) && plWs (r.map f)) = true
    rw [h x, plWs_map h r] <;> rfl
theorem pl_enc : ∀ (c : Codec) (a : c.denote), plW (c.enc a) = true
  | .unit, _ => rfl
  | .bool, _ => rfl
  | .int _ _, _ => rfl
  | .nat _ _, _ => rfl
  | .u8, _ => rfl
  | .bytes _ _, _ => rfl
  | .text _ _ _ _, _ => rfl
  | .list _ _ c, a => plWs_map (fun x => pl_enc c x) a
  | .pair c d, a => by
    show (plW (c.enc a.1) && (plW (d.enc a.2) && true)) = true
    rw [pl_enc c a.1, pl_enc d a.2] <;> rfl
  | .triple c d e, a => by
    show (plW (c.enc a.1) && (plW (d.enc a.2.1) && (plW (e.enc a.2.2) && true))) = true
    rw [pl_enc c a.1, pl_enc d a.2.1, pl_enc e a.2.2] <;> rfl
  | .option c, none => rfl
  | .option c, some x => pl_enc c x
theorem pl_encAll : ∀ (cs : List Codec) (a : Codec.denoteAll cs), plWs (Codec.encAll cs a) = true
  | [], _ => rfl
  | c :: cs, a => by
    show (plW (c.enc a.1) && plWs (Codec.encAll cs a.2)) = true
    rw [pl_enc c a.1, pl_encAll cs a.2] <;> rfl
theorem weight_mem : ∀ {xs : List WData} {d : WData}, d ∈ xs → d.weight ≤ WData.weightAll xs
  | [], d, h => absurd h (by simp)
  | x :: r, d, h => by
    show d.weight ≤ x.weight + 1 + WData.weightAll r
    rcases List.mem_cons.mp h with e | m
    · rw [e]
      omega
    · have z := weight_mem m
      omega
def toV : Value → V
  | .none => .non
  | .bool b => .bl b
  | .int i _ => .int i
  | .str x _ => .str x
  | .bytes b _ => .byt b
  | .ref a => .ref a
  | _ => .non
def OkU (A : List Addr) : Value → Prop
  | .none => True
  | .bool _ => True
  | .int _ _ => True
  | .str _ _ => True
  | .bytes _ _ => True
  | .ref a => a ∈ A
  | _ => False
theorem OkU.mono {A B : List Addr} (h : ∀ a ∈ A, a ∈ B) : ∀ {u : Value}, OkU A u → OkU B u := fun {u} x => by
  cases u with
  | ref a => exact h a x
  | none => trivial
  | bool b => trivial
  | int i t => trivial
  | str s t => trivial
  | bytes b t => trivial
  | _ => exact False.elim x
theorem relV_toV {A : List Addr} {u : Value} (x : OkU A u) : RelV (toV u) u := by
  cases u with
  | ref a => rfl
  | none => rfl
  | bool b => rfl
  | int i t => exact ⟨t, rfl⟩
  | str s t => exact ⟨t, rfl⟩
  | bytes b t => exact ⟨t, rfl⟩
  | _ => exact False.elim x
theorem vals_toV {A : List Addr} : ∀ {vs : List Value}, (∀ u ∈ vs, OkU A u) → Vals (vs.map toV) vs
  | [], _ => .nil
  | u :: r, h => .cons (relV_toV (h u (List.mem_cons_self ..))) (vals_toV fun x hx => h x (List.mem_cons_of_mem _ hx))
def ArgOb (h : Heap) (A : List Addr) (a : Addr) : Prop := ∃ vs : List Value, vs.length ≤ sizeLine ∧ (∀ u ∈ vs, OkU A u) ∧
  (h.get? a = some { cls := .type "list", data := .seq vs.toArray } ∨ h.get? a = some { cls := .type "tuple", data := .seq vs.toArray })
theorem ArgOb.mono {h : Heap} {A B : List Addr} {a : Addr} (k : ∀ a ∈ A, a ∈ B) (x : ArgOb h A a) : ArgOb h B a := by
  obtain ⟨vs, h1, h2, h3⟩ := x
  exact ⟨vs, h1, fun u hu => (h2 u hu).mono k, h3⟩
theorem wellAll_len {P : Params} {h : Heap} : ∀ {vs : List Value} {ds : List WData}, WellAll P h vs ds → vs.length = ds.length
  | _, _, .nil => rfl
  | _, _, .cons _ b => by
    show _ + 1 = _ + 1
    rw [wellAll_len b]
theorem well_list {P : Params} {h : Heap} {v : Value} {ds : List WData} (x : Well P h v (.list ds)) : ∃ (a : Addr) (vs : List Value), v = .ref a ∧ h.get? a = some { cls := .type "list", data := .seq vs.toArray } ∧ WellAll P h vs ds := by
  cases x with
  | list ho hall => exact ⟨_, _, rfl, ho, hall⟩
theorem well_tuple {P : Params} {h : Heap} {v : Value} {ds : List WData} (x : Well P h v (.tuple ds)) : ∃ (a : Addr) (vs : List Value), v = .ref a ∧ h.get? a = some { cls := .type "tuple", data := .seq vs.toArray } ∧ WellAll P h vs ds := by
  cases x with
  | tuple ho hall => exact ⟨_, _, rfl, ho, hall⟩
theorem well_cons {P : Params} {h : Heap} {us : List Value} {d : WData} {ds : List WData} (x : WellAll P h us (d :: ds)) : ∃ (v : Value) (vs : List Value), us = v :: vs ∧ Well P h v d ∧ WellAll P h vs ds := by
  cases x with
  | cons a b => exact ⟨_, _, rfl, a, b⟩
theorem line_of {n : Nat} (h : n ≤ 1048576) : n ≤ sizeLine := Nat.le_trans h (by decide)
section
variable {P : Params} {h : Heap}
mutual
theorem area_one : ∀ (d : WData) (v : Value), Well P h v d → plW d = true → d.weight ≤ 1048576 → ∃ A : List Addr, OkU A v ∧ ∀ a ∈ A, ArgOb h A a
  | .none, _, x, _, _ => by
    cases x
    exact ⟨[], trivial, fun a m => absurd m (by simp)⟩
  | .bool b, _, x, _, _ => by
    cases x
    exact ⟨[], trivial, fun a m => absurd m (by simp)⟩
  | .int i, _, x, _, _ => by
    cases x
    exact ⟨[], trivial, fun a m => absurd m (by simp)⟩
  | .str s, _, x, _, _ => by
    cases x
    exact ⟨[], trivial, fun a m => absurd m (by simp)⟩
  | .bytes b, _, x, _, _ => by
    cases x
    exact ⟨[], trivial, fun a m => absurd m (by simp)⟩
  | .list ds, _, x, p, z => by
    obtain ⟨a, vs, rfl, ho, hall⟩ := well_list x
    have z2 : WData.weightAll ds ≤ 1048576 := z
    obtain ⟨A, h1, h2⟩ := area_all ds _ hall p fun d hd => Nat.le_trans (weight_mem hd) z2
    have k : ∀ b ∈ A, b ∈ a :: A := fun b hb => List.mem_cons_of_mem _ hb
    refine ⟨a :: A, List.mem_cons_self .., fun b hb => ?_⟩
    rcases List.mem_cons.mp hb with e | m
    · rw [e]
      exact ⟨vs, line_of (by rw [wellAll_len hall]; exact Nat.le_trans (PySem.W.length_le_weightAllW ds) z2), fun u hu => (h1 u hu).mono k, .inl ho⟩
    · exact (h2 b m).mono k
  | .tuple ds, _, x, p, z => by
    obtain ⟨a, vs, rfl, ho, hall⟩ := well_tuple x
    have z2 : WData.weightAll ds ≤ 1048576 := z
    obtain ⟨A, h1, h2⟩ := area_all ds _ hall p fun d hd => Nat.le_trans (weight_mem hd) z2
    have k : ∀ b ∈ A, b ∈ a :: A := fun b hb => List.mem_cons_of_mem _ hb
    refine ⟨a :: A, List.mem_cons_self .., fun b hb => ?_⟩
    rcases List.mem_cons.mp hb with e | m
    · rw [e]
      exact ⟨vs, line_of (by rw [wellAll_len hall]; exact Nat.le_trans (PySem.W.length_le_weightAllW ds) z2), fun u hu => (h1 u hu).mono k, .inr ho⟩
    · exact (h2 b m).mono k
  | .float _, _, _, p, _ => Bool.noConfusion (show false = true from p)
  | .dict _, _, _, p, _ => Bool.noConfusion (show false = true from p)
  | .bytearray _, _, _, p, _ => Bool.noConfusion (show false = true from p)
  | .set _, _, _, p, _ => Bool.noConfusion (show false = true from p)
  | .frozenset _, _, _, p, _ => Bool.noConfusion (show false = true from p)
  | .obj _ _, _, _, p, _ => Bool.noConfusion (show false = true from p)
theorem area_all : ∀ (ds : List WData) (vs : List Value), WellAll P h vs ds → plWs ds = true → (∀ d ∈ ds, d.weight ≤ 1048576) → ∃ A : List Addr, (∀ u ∈ vs, OkU A u) ∧ ∀ a ∈ A, ArgOb h A a
  | [], _, x, _, _ => by
    cases x
    exact ⟨[], fun u m => absurd m (by simp), fun a m => absurd m (by simp)⟩
  | d :: ds, _, x, p, z => by
    obtain ⟨v, vs, rfl, x1, x2⟩ := well_cons x
    have q : plW d = true ∧ plWs ds = true := Bool.and_eq_true_iff.mp p
    obtain ⟨A, a1, a2⟩ := area_one d v x1 q.1 (z d (List.mem_cons_self ..))
    obtain ⟨B, b1, b2⟩ := area_all ds vs x2 q.2 fun e he => z e (List.mem_cons_of_mem _ he)
    have kA : ∀ b ∈ A, b ∈ A ++ B := fun b hb => List.mem_append.mpr (.inl hb)
    have kB : ∀ b ∈ B, b ∈ A ++ B := fun b hb => List.mem_append.mpr (.inr hb)
    refine ⟨A ++ B, fun u hu => ?_, fun b hb => ?_⟩
    · rcases List.mem_cons.mp hu with e | m
      · rw [e]
        exact a1.mono kA
      · exact (b1 u m).mono kB
    · rcases List.mem_append.mp hb with m | m
      · exact (a2 b m).mono kA
      · exact (b2 b m).mono kB
end
end
def hoOf (o : Obj) : Option HO := match o.data with
  | .seq vs _ => if (o.cls == Value.type "list") = true then some (.frz o (.lst (vs.toList.map toV))) else some (.frz o (.tup (vs.toList.map toV)))
  | _ => none
def argH (K : PySem.W.Frag) (h : Heap) (A : List Addr) : Hp := fun b => if b ∈ A then (if (K.lookup b).isNone = true then (h.get? b).bind hoOf else none) else none
def OnlyF (H : Hp) : Prop := ∀ b, H b = none ∨ ∃ o u, H b = some (.frz o u)
theorem hoOf_lst (vs : List Value) : hoOf { cls := .type "list", data := .seq vs.toArray } = some (.frz { cls := .type "list", data := .seq vs.toArray } (.lst (vs.map toV))) := by
  show (if (Value.type "list" == Value.type "list") = true then some (HO.frz { cls := .type "list", data := .seq vs.toArray } (.lst (vs.toArray.toList.map toV))) else some (HO.frz { cls := .type "list", data := .seq vs.toArray } (.tup (vs.toArray.toList.map toV)))) = _
  rw [if_pos (beq_self_eq_true _)]
theorem hoOf_tup (vs : List Value) : hoOf { cls := .type "tuple", data := .seq vs.toArray } = some (.frz { cls := .type "tuple", data := .seq vs.toArray } (.tup (vs.map toV))) := by
  show (if (Value.type "tuple" == Value.type "list") = true then some (HO.frz { cls := .type "tuple", data := .seq vs.toArray } (.lst (vs.toArray.toList.map toV))) else some (HO.frz { cls := .type "tuple", data := .seq vs.toArray } (.tup (vs.toArray.toList.map toV)))) = _
  rw [if_neg (by decide)]
section
variable {P : Program} {w : World} {K : PySem.W.Frag} {h : Heap} {A : List Addr}
theorem argH_at {b : Addr} {o : Obj} (hb : b ∈ A) (hk : K.lookup b = none) (e : h.get? b = some o) : argH K h A b = hoOf o := by
  unfold argH
  rw [if_pos hb, hk, if_pos (show (none : Option Obj).isNone = true from rfl), e] <;> rfl
theorem of_argH {b : Addr} {u : HO} (q : argH K h A b = some u) : b ∈ A ∧ K.lookup b = none := by
  unfold argH at q
  by_cases hb : b ∈ A
  · rw [if_pos hb] at q
    cases hk : K.lookup b with
    | none => exact ⟨hb, rfl⟩
    | some o =>
      rw [hk, if_neg (by simp)] at q
      cases q
  · rw [if_neg hb] at q
    cases q
theorem argH_is (ar : ∀ a ∈ A, ArgOb h A a) {b : Addr} {u : HO} (q : argH K h A b = some u) : K.lookup b = none ∧ ∃ vs : List Value, vs.length ≤ sizeLine ∧ (∀ u ∈ vs, OkU A u) ∧
    ((h.get? b = some { cls := .type "list", data := .seq vs.toArray } ∧ u = .frz { cls := .type "list", data := .seq vs.toArray } (.lst (vs.map toV))) ∨
     (h.get? b = some { cls := .type "tuple", data := .seq vs.toArray } ∧ u = .frz { cls := .type "tuple", data := .seq vs.toArray } (.tup (vs.map toV)))) := by
  obtain ⟨hb, hk⟩ := of_argH q
  obtain ⟨vs, h1, h2, h3⟩ := ar b hb
  refine ⟨hk, vs, h1, h2, ?_⟩
  rcases h3 with e | e
  · rw [argH_at hb hk e, hoOf_lst] at q
    exact .inl ⟨e, (Option.some.inj q).symm⟩
  · rw [argH_at hb hk e, hoOf_tup] at q
    exact .inr ⟨e, (Option.some.inj q).symm⟩
theorem argH_only (ar : ∀ a ∈ A, ArgOb h A a) : OnlyF (argH K h A) := fun b => by
  cases q : argH K h A b with
  | none => exact .inl rfl
  | some u =>
    obtain ⟨_, vs, _, _, ⟨_, e⟩ | ⟨_, e⟩⟩ := argH_is ar q
    · exact .inr ⟨_, _, by rw [e]⟩
    · exact .inr ⟨_, _, by rw [e]⟩
theorem argH_ok (ar : ∀ a ∈ A, ArgOb h A a) : HOk P w (argH K h A) h := fun b u q => by
  obtain ⟨_, vs, h1, h2, ⟨e, rfl⟩ | ⟨e, rfl⟩⟩ := argH_is ar q
  · exact ⟨e, by rw [List.length_map]; exact h1, vs, _, vals_toV h2, e⟩
  · exact ⟨e, by rw [List.length_map]; exact h1, vs, vals_toV h2, _, e, rfl, _, rfl⟩
theorem seq_inj {c c' : Value} {vs us : List Value} (e : (some { cls := c, data := .seq vs.toArray } : Option Obj) = some { cls := c', data := .seq us.toArray }) : c = c' ∧ vs = us := by
  have e1 := Option.some.inj e
  have e2 : c = c' := congrArg Obj.cls e1
  have e3 : Data.seq vs.toArray = Data.seq us.toArray := congrArg Obj.data e1
  injection e3 with e4
  refine ⟨e2, ?_⟩
  have e5 := congrArg Array.toList e4
  simpa using e5
theorem argL (KX : K.In h) (ar : ∀ a ∈ A, ArgOb h A a) {a : Addr} {vs : List Value} (ha : a ∈ A) (e : h.get? a = some { cls := .type "list", data := .seq vs.toArray }) : (∀ u ∈ vs, OkU A u) ∧ SqL K (argH K h A) a (vs.map toV) := by
  obtain ⟨us, h1, h2, h3⟩ := ar a ha
  have hu : us = vs := by
    rcases h3 with q | q
    · rw [e] at q
      exact (seq_inj q).2.symm
    · rw [e] at q
      exact absurd (Value.type.inj (seq_inj q).1) (by decide)
  subst hu
  refine ⟨h2, ?_⟩
  cases hk : K.lookup a with
  | none => exact .inl (.inr ⟨_, by rw [argH_at ha hk e, hoOf_lst]⟩)
  | some o =>
    have e2 := KX a o hk
    rw [e] at e2
    obtain rfl := Option.some.inj e2
    exact .inr ⟨_, us.toArray, _, hk, rfl, rfl, rfl, by rw [List.size_toArray]; exact h1, by simpa using vals_toV h2⟩
theorem argT (KX : K.In h) (ar : ∀ a ∈ A, ArgOb h A a) {a : Addr} {vs : List Value} (ha : a ∈ A) (e : h.get? a = some { cls := .type "tuple", data := .seq vs.toArray }) : (∀ u ∈ vs, OkU A u) ∧ SqT K (argH K h A) a (vs.map toV) := by
  obtain ⟨us, h1, h2, h3⟩ := ar a ha
  have hu : us = vs := by
    rcases h3 with q | q
    · rw [e] at q
      exact absurd (Value.type.inj (seq_inj q).1) (by decide)
    · rw [e] at q
      exact (seq_inj q).2.symm
  subst hu
  refine ⟨h2, ?_⟩
  cases hk : K.lookup a with
  | none => exact .inl (.inr ⟨_, by rw [argH_at ha hk e, hoOf_tup]⟩)
  | some o =>
    have e2 := KX a o hk
    rw [e] at e2
    obtain rfl := Option.some.inj e2
    exact .inr ⟨_, us.toArray, _, hk, rfl, rfl, by rw [List.size_toArray]; exact h1, by simpa using vals_toV h2⟩
mutual
theorem dw_one {Pm : Params} (KX : K.In h) (ar : ∀ a ∈ A, ArgOb h A a) : ∀ (d : WData) (v : Value), Well Pm h v d → plW d = true → OkU A v → Dw K (argH K h A) (toV v) d
  | .none, _, x, _, _ => by
    cases x
    exact .non
  | .bool b, _, x, _, _ => by
    cases x
    exact .bl b
  | .int i, _, x, _, _ => by
    cases x
    exact .int i
  | .str s, _, x, _, _ => by
    cases x
    exact .str s
  | .bytes b, _, x, _, _ => by
    cases x
    have z := Dw.byt (K := K) (H := argH K h A) b.toArray
    exact z
  | .list ds, _, x, p, hu => by
    obtain ⟨a, vs, rfl, ho, hall⟩ := well_list x
    obtain ⟨h2, hs⟩ := argL KX ar hu ho
    exact .lst hs (dw_all KX ar ds _ hall p h2)
  | .tuple ds, _, x, p, hu => by
    obtain ⟨a, vs, rfl, ho, hall⟩ := well_tuple x
    obtain ⟨h2, hs⟩ := argT KX ar hu ho
    exact .tup hs (dw_all KX ar ds _ hall p h2)
  | .float _, _, _, p, _ => Bool.noConfusion (show false = true from p)
  | .dict _, _, _, p, _ => Bool.noConfusion (show false = true from p)
  | .bytearray _, _, _, p, _ => Bool.noConfusion (show false = true from p)
  | .set _, _, _, p, _ => Bool.noConfusion (show false = true from p)
  | .frozenset _, _, _, p, _ => Bool.noConfusion (show false = true from p)
  | .obj _ _, _, _, p, _ => Bool.noConfusion (show false = true from p)
theorem dw_all {Pm : Params} (KX : K.In h) (ar : ∀ a ∈ A, ArgOb h A a) : ∀ (ds : List WData) (vs : List Value), WellAll Pm h vs ds → plWs ds = true → (∀ u ∈ vs, OkU A u) → DwAll K (argH K h A) (vs.map toV) ds
  | [], _, x, _, _ => by
    cases x
    exact .nil
  | d :: ds, _, x, p, hu => by
    obtain ⟨v, vs, rfl, x1, x2⟩ := well_cons x
    have q : plW d = true ∧ plWs ds = true := Bool.and_eq_true_iff.mp p
    exact .cons (dw_one KX ar d v x1 q.1 (hu _ (List.mem_cons_self ..))) (dw_all KX ar ds vs x2 q.2 fun u m => hu u (List.mem_cons_of_mem _ m))
end
end
theorem spec_call {P : Program} {w : World} {K : PySem.W.Frag} {mg mb : Str → Option Value} {CX : CXT} {k : Nat} {fa : Addr} {fd : FuncData} {ps : List Str} {sp : Sp} {s₁ : Shared} {vals : List Value} {ds : List WData} {R : PySem.W.WRecords} {cl : Str → Option Addr} {d0 : WData}
    (KX : K.In s₁.heap) (hns : s₁.heap.Ns mainGlobals mg) (hb : s₁.heap.Ns builtinsNs mb) (hbb : ∀ x : Str, x ≠ "__name__" → mb x = bootBuiltins x) (hlim : s₁.heap.NoLimit) (hg : s₁.gens = #[])
    (hwl : WellAll w.params s₁.heap vals ds) (hpl : plWs ds = true) (hwt : ∀ d ∈ ds, d.weight ≤ 1048576) (hr : Room k callerA)
    (F : ∀ base : Heap, K.In base → base.Ns mainGlobals mg → FnOk P w K mg base CX k fa fd ps sp) (hbind : ∀ (s : Shared) (us : List Value), us.length = ps.length → BindsTo s fd ⟨us, []⟩ (ps.zip us)) (hlen : ds.length = ps.length)
    (hsp : ∀ (H : Hp) (xs : List V), OnlyF H → DwAll K H xs ds → sp xs H (fun v H' => Dw K H' v d0) fun _ _ _ => False)
    (hCX : ∀ H e s', CX [] H s₁ (fun _ _ _ => False) e s' → False) :
    codeAny (model P w) callerA (.call (.ref fa) ⟨vals, []⟩) (fun r s' => ∃ u as, r = .ok (.ret u) ∧ ReadsW R cl s'.heap u d0 as ∧ OldK s₁.heap s'.heap ∧ s'.os = s₁.os ∧ AllBare s'.gens) s₁ := by
  obtain ⟨A, ho, ar⟩ := area_all ds vals hwl hpl hwt
  have hO : OnlyF (argH K s₁.heap A) := argH_only ar
  have hok : HOk P w (argH K s₁.heap A) s₁.heap := argH_ok ar
  have hS := dw_all KX ar ds vals hwl hpl ho
  have hV := vals_toV ho
  have hK : ∀ b u, argH K s₁.heap A b = some u → K.lookup b = none := fun b u q => (argH_is ar q).1
  have noA : ∀ {b : Addr} {o : Obj} {es : Array DictEntry} {ep : Nat}, s₁.heap.get? b = some o → o.data = .dict es ep → argH K s₁.heap A b = none := fun {b o es ep} e d => by
    cases q : argH K s₁.heap A b with
    | none => rfl
    | some u =>
      obtain ⟨_, vs, _, _, ⟨e2, _⟩ | ⟨e2, _⟩⟩ := argH_is ar q
      · rw [e2] at e
        cases e
        have d' : Data.seq vs.toArray _ = Data.dict es ep := d
        cases d'
      · rw [e2] at e
        cases e
        have d' : Data.seq vs.toArray _ = Data.dict es ep := d
        cases d'
  generalize argH K s₁.heap A = H at hO hok hS hK noA
  have base_of : ∀ {b : Addr} {o : Obj}, s₁.heap.get? b = some o → H b = none → (hidT s₁.heap H).get? b = some o := fun e n => hidT_get e n
  have nsK : ∀ {b : Addr} {m : Str → Option Value}, s₁.heap.Ns b m → (hidT s₁.heap H).Ns b m := fun {b m} ⟨o, es, ep, e, d, r⟩ => ⟨o, es, ep, base_of e (noA e d), d, r⟩
  have nK : ∀ b o, K.lookup b = some o → H b = none := fun b o e => by
    cases q : H b with
    | none => rfl
    | some u =>
      rw [hK b u q] at e
      cases e
  have hKb : K.In (hidT s₁.heap H) := fun b o e => base_of (KX b o e) (nK b o e)
  have hM : Mod K mg (hidT s₁.heap H) := ⟨hKb, nsK hns, ⟨mb, nsK hb, hbb⟩, let ⟨mc, h1, h2⟩ := hlim; ⟨mc, nsK h1, h2⟩⟩
  have e0 : Env0 P w K mg (hidT s₁.heap H) callerA [] s₁ H := ⟨rfl, hM, fun b o e => of_hidT e, Nat.le_of_eq (hidT_size _ _), trivial, fun b hb => absurd (show b ∈ ([] : List Addr) from hb) (by simp), hok, .of_eq hg⟩
  have hl : vals.length = ps.length := by rw [wellAll_len hwl]; exact hlen
  refine codeAny_mono ((F _ hKb (nsK hns)).run callerA [] s₁ H ⟨vals, []⟩ vals (vals.map toV) _ _ hr e0 (hbind s₁ vals hl) hV (hsp H _ hO hS)) fun r s' x => ?_
  cases r with
  | error e => exact (hCX H e s' x).elim
  | ok fl =>
    cases fl with
    | next => exact False.elim x
    | brk => exact False.elim x
    | cont => exact False.elim x
    | ret u =>
      obtain ⟨v, H', os, bare, un, hok', r', q⟩ := x
      have kept : ∀ b o, s₁.heap.get? b = some o → s'.heap.get? b = some o := fun b o e => by
        cases q2 : H b with
        | none => exact un.keep b o e q2 (by intro z; exact absurd (show b ∈ ([] : List Addr) from z) (by simp)) (by simp)
        | some u2 =>
          rcases hO b with z | ⟨ob, u3, z⟩
          · rw [q2] at z
            cases z
          · have z2 := un.frzs b ob _ z
            obtain ⟨e1, _⟩ := hok b _ z
            obtain ⟨e2, _⟩ := hok' b _ z2
            rw [e] at e1
            cases e1
            exact e2
      have KX' : K.In s'.heap := fun b o e => kept b o (KX b o e)
      obtain ⟨as, hrd⟩ := Dw.reads (R := R) (cl := cl) hok' KX' d0 v u q r'
      exact ⟨u, as, rfl, hrd, OldK.of_keep kept, os, bare⟩
theorem layable_weight {ds : List WData} (h : WData.layableAll ds = true) : ∀ d ∈ ds, d.weight ≤ 1048576 := fun d hd =>
  (PySem.W.layableW_iff.mp (List.all_eq_true.mp h d hd)).2.2
theorem encAll_len : ∀ (cs : List Codec) (a : Codec.denoteAll cs), (Codec.encAll cs a).length = cs.length
  | [], _ => rfl
  | c :: cs, a => by
    show (Codec.encAll cs a.2).length + 1 = cs.length + 1
    rw [encAll_len cs a.2]
theorem walk_spec {r : OpenSpec} {k : Nat} {q : Program} {loose : List Str} {XP : (Str → Option Value) → Heap → Prop} {YP : World → Heap → Prop} {d : DefRec} {K : Params → PySem.W.Frag} {CX : World → CXT} {ps : List Str} {sp : World → Sp}
    (hwell : r.wellSaid = true) (hdf : d.params.defaults = []) (hlen : r.args.length = ps.length) (hr : Room k callerA)
    (hY : ∀ (w : World) (h : Heap), YP w h → (K w.params).In h)
    (F : ∀ (w : World) (mg : Str → Option Value) (fa : Addr) (h : Heap), YP w h → (K w.params).In h → h.Ns mainGlobals mg → mg d.name = some (.ref fa) →
      ∃ fd : FuncData, (∀ (s : Shared) (us : List Value), us.length = ps.length → BindsTo s fd ⟨us, []⟩ (ps.zip us)) ∧
        ∀ base : Heap, (K w.params).In base → base.Ns mainGlobals mg → FnOk r.prog w (K w.params) mg base (CX w) k fa fd ps (sp w))
    (hsp : ∀ (w : World) (H : Hp) (xs : List V) (a : Codec.denoteAll r.args), OnlyF H → Codec.withinAll r.args a = true → Codec.app r.args r.asked a = true → DwAll (K w.params) H xs (Codec.encAll r.args a) →
      sp w xs H (fun v H' => Dw (K w.params) H' v (r.ret.enc (Codec.app r.args r.f a))) fun _ _ _ => False)
    (hCX : ∀ (w : World) (H : Hp) (s : Shared) (e : Value) (s' : Shared), CX w [] H s (fun _ _ _ => False) e s' → False) :
    PySem.W.WalkOS q loose XP YP r d [] (fun f vs => PySem.call f vs) := by
  intro w s_0 s₁ mg mb G Y fa o pm cd doc dV kV ho hd hcd hD hmg hg args vals as hpre hlay hrd hwl hlo
  obtain ⟨a, e1, e2⟩ := PySem.W.os_pre_some hpre
  obtain ⟨e3, hwi⟩ := Codec.encAll_of_decAll r.args args a e1
  subst e3
  have KX := hY w _ Y
  obtain ⟨fd, hb, hF⟩ := F w mg fa _ Y KX G.T.g hmg
  refine PySem.W.enter_call (codeAny_mono (spec_call (R := []) (cl := classAt s_0.heap) (d0 := r.ret.enc (Codec.app r.args r.f a)) KX G.T.g G.T.b G.T.builtins G.T.nolimit hg hwl (pl_encAll _ _) (layable_weight hlay) hr hF hb (by rw [encAll_len]; exact hlen)
    (fun H xs hO hS => hsp w H xs a hO hwi e2 hS) fun H e s' => hCX w H s₁ e s') fun r' s' hq => ?_)
  obtain ⟨u, as', rfl, h1, h2, h3, h4⟩ := hq
  exact ⟨.inl ⟨u, _, as', rfl, fun _ => rfl, h1, (OpenSpec.post_iff hwell hwi _ _).mpr rfl, fun z => Bool.noConfusion (show false = true from z)⟩, h2, h3, h4⟩
theorem walk_specK {r : OpenSpec} {k : Nat} {q : Program} {loose : List Str} {XP : (Str → Option Value) → Heap → Prop} {YP : World → Heap → Prop} {d : DefRec} {K : Params → PySem.W.Frag} {CX : CXT} {ps : List Str} {sp : PySem.W.Frag → Sp}
    (hwell : r.wellSaid = true) (hdf : d.params.defaults = []) (hlen : r.args.length = ps.length) (hr : Room k callerA)
    (hY : ∀ (w : World) (h : Heap), YP w h → (K w.params).In h)
    (F : ∀ (w : World) (mg : Str → Option Value) (fa : Addr) (h : Heap), YP w h → (K w.params).In h → h.Ns mainGlobals mg → mg d.name = some (.ref fa) →
      ∃ fd : FuncData, (∀ (s : Shared) (us : List Value), us.length = ps.length → BindsTo s fd ⟨us, []⟩ (ps.zip us)) ∧
        ∀ base : Heap, (K w.params).In base → base.Ns mainGlobals mg → FnOk r.prog w (K w.params) mg base CX k fa fd ps (sp (K w.params)))
    (hsp : ∀ (K : PySem.W.Frag) (H : Hp) (xs : List V) (a : Codec.denoteAll r.args), OnlyF H → Codec.withinAll r.args a = true → Codec.app r.args r.asked a = true → DwAll K H xs (Codec.encAll r.args a) →
      sp K xs H (fun v H' => Dw K H' v (r.ret.enc (Codec.app r.args r.f a))) fun _ _ _ => False)
    (hCX : ∀ (H : Hp) (s : Shared) (e : Value) (s' : Shared), CX [] H s (fun _ _ _ => False) e s' → False) :
    PySem.W.WalkOS q loose XP YP r d [] (fun f vs => PySem.call f vs) :=
  walk_spec (K := K) (CX := fun _ => CX) (sp := fun w => sp (K w.params)) hwell hdf hlen hr hY F (fun w H xs a h1 h2 h3 h4 => hsp (K w.params) H xs a h1 h2 h3 h4) fun _ H s e s' => hCX H s e s'
end L2
-- rests on (row put in by the clerk, for the bench that shows a file only what it spells): KE.SpHead KE.OsShapes
end
set_option linter.all false
namespace Tw
open Vbdlac
structure QB (n : Nat) (a : Q) : Prop where
  nb : a.num.natAbs < 2 ^ n
  dp : 0 < a.den
  db : a.den < 2 ^ n
theorem gcd_pos (n : Int) {d : Nat} (hd : 0 < d) : 0 < Nat.gcd n.natAbs d := Nat.gcd_pos_of_pos_right _ hd
theorem q_num (n : Int) (d : Nat) : (q n d).num = n / ((Nat.gcd n.natAbs d : Nat) : Int) := rfl
theorem q_den (n : Int) (d : Nat) : (q n d).den = d / Nat.gcd n.natAbs d := rfl
theorem q_den_pos {n : Int} {d : Nat} (hd : 0 < d) : 0 < (q n d).den := by
  rw [q_den]
  exact Nat.div_pos (Nat.gcd_le_right _ hd) (gcd_pos n hd)
theorem q_bound {n : Int} {d k : Nat} (hd : 0 < d) (hn : n.natAbs < 2 ^ k) (hd2 : d < 2 ^ k) : QB k (q n d) := by
  refine ⟨?_, q_den_pos hd, ?_⟩
  · rw [q_num]
    exact Nat.lt_of_le_of_lt (Int.natAbs_ediv_le_natAbs _ _) hn
  · rw [q_den]
    exact Nat.lt_of_le_of_lt (Nat.div_le_self _ _) hd2
theorem pow_le {m n : Nat} (h : m ≤ n) : 2 ^ m ≤ 2 ^ n := Nat.pow_le_pow_right (by decide) h
theorem QB.mono {m n : Nat} {a : Q} (h : QB m a) (l : m ≤ n) : QB n a := ⟨Nat.lt_of_lt_of_le h.nb (pow_le l), h.dp, Nat.lt_of_lt_of_le h.db (pow_le l)⟩
theorem mul_lt_pow {x y m n : Nat} (hx : x < 2 ^ m) (hy : y < 2 ^ n) : x * y < 2 ^ (m + n) := by
  rw [Nat.pow_add]
  exact Nat.mul_lt_mul'' hx hy
theorem add_lt_pow {x y n : Nat} (hx : x < 2 ^ n) (hy : y < 2 ^ n) : x + y < 2 ^ (n + 1) := by
  rw [Nat.pow_succ]
  omega
theorem QB.mul {m n : Nat} {a b : Q} (ha : QB m a) (hb : QB n b) : QB (m + n) (mulQ a b) := by
  refine q_bound (Nat.mul_pos ha.dp hb.dp) ?_ (mul_lt_pow ha.db hb.db)
  rw [Int.natAbs_mul]
  exact mul_lt_pow ha.nb hb.nb
theorem cross_bound {m n : Nat} {a b : Q} (ha : QB m a) (hb : QB n b) : (a.num * (b.den : Int)).natAbs < 2 ^ (m + n) := by
  rw [Int.natAbs_mul, Int.natAbs_natCast]
  exact mul_lt_pow ha.nb hb.db
theorem QB.add {m n : Nat} {a b : Q} (ha : QB m a) (hb : QB n b) : QB (m + n + 1) (addQ a b) := by
  refine q_bound (Nat.mul_pos ha.dp hb.dp) ?_ (Nat.lt_of_lt_of_le (mul_lt_pow ha.db hb.db) (pow_le (Nat.le_succ _)))
  have h1 := cross_bound ha hb
  have h2 := cross_bound hb ha
  rw [Nat.add_comm n m] at h2
  exact Nat.lt_of_le_of_lt (Int.natAbs_add_le _ _) (add_lt_pow h1 h2)
theorem QB.neg {n : Nat} {a : Q} (ha : QB n a) : QB n (negQ a) := ⟨by show (-a.num).natAbs < _; rw [Int.natAbs_neg]; exact ha.nb, ha.dp, ha.db⟩
theorem QB.sub {m n : Nat} {a b : Q} (ha : QB m a) (hb : QB n b) : QB (m + n + 1) (subQ a b) := ha.add hb.neg
theorem QB.whole {n : Nat} {z : Int} (h : z.natAbs < 2 ^ n) (hn : 0 < n) : QB n (whole z) := ⟨h, Nat.one_pos, Nat.one_lt_two_pow (by omega)⟩
theorem QB.div {m n : Nat} {a b : Q} (ha : QB m a) (hb : QB n b) (h0 : 0 < b.num) : QB (m + n) (divQ a b) := by
  have hp : 0 < b.num.natAbs := by omega
  refine q_bound (Nat.mul_pos ha.dp hp) ?_ (mul_lt_pow ha.db hb.nb)
  rw [Int.sign_eq_one_of_pos h0, Int.mul_one]
  exact cross_bound ha hb
theorem divQ_pos {a b : Q} (h0 : 0 < b.num) : divQ a b = q (a.num * (b.den : Int)) (a.den * b.num.natAbs) := by
  show q (a.num * (b.den : Int) * b.num.sign) (a.den * b.num.natAbs) = _
  rw [Int.sign_eq_one_of_pos h0, Int.mul_one]
theorem subQ_eq (a b : Q) : subQ a b = q (a.num * (b.den : Int) - b.num * (a.den : Int)) (a.den * b.den) := by
  show q (a.num * (b.den : Int) + -b.num * (a.den : Int)) (a.den * b.den) = _
  rw [Int.neg_mul, Int.sub_eq_add_neg]
theorem q_scale {g : Nat} (hg : 0 < g) (n : Int) (d : Nat) : q ((g : Int) * n) (g * d) = q n d := by
  have e : Nat.gcd ((g : Int) * n).natAbs (g * d) = g * Nat.gcd n.natAbs d := by
    rw [Int.natAbs_mul, Int.natAbs_natCast, Nat.gcd_mul_left]
  show Q.mk _ _ = Q.mk _ _
  rw [e]
  congr 1
  · rw [Int.natCast_mul]
    exact Int.mul_ediv_mul_of_pos _ _ (by omega)
  · exact Nat.mul_div_mul_left _ _ hg
theorem q_whole (v : Int) {d : Nat} (hd : 0 < d) : q (v * (d : Int)) d = whole v := by
  have e := q_scale hd v 1
  rw [Nat.mul_one, Int.mul_comm] at e
  rw [e]
  show Q.mk _ _ = Q.mk v 1
  rw [Nat.gcd_one_right]
  simp
theorem q_cross (n : Int) {d : Nat} (hd : 0 < d) : (q n d).num * (d : Int) = n * ((q n d).den : Int) := by
  have hg := gcd_pos n hd
  have h1 : ((Nat.gcd n.natAbs d : Nat) : Int) ∣ n := Int.dvd_natAbs.mp (Int.natCast_dvd_natCast.mpr (Nat.gcd_dvd_left _ _))
  have h2 : Nat.gcd n.natAbs d ∣ d := Nat.gcd_dvd_right _ _
  rw [q_num, q_den]
  generalize Nat.gcd n.natAbs d = g at *
  obtain ⟨a, rfl⟩ := h1
  obtain ⟨b, rfl⟩ := h2
  rw [Int.mul_ediv_cancel_left _ (by omega), Nat.mul_div_cancel_left _ hg, Int.natCast_mul]
  ac_rfl
theorem q_num_pos {n : Int} {d : Nat} (hn : 0 < n) (hd : 0 < d) : 0 < (q n d).num := by
  have e := q_cross n hd
  have h2 : 0 < ((q n d).den : Int) := by have := q_den_pos (n := n) hd; omega
  have h3 : 0 < (q n d).num * (d : Int) := by rw [e]; exact Int.mul_pos hn h2
  exact Int.pos_of_mul_pos_left h3 (by omega) |> fun h => by
    first | exact h | omega
end Tw
set_option linter.all false
namespace Tw
open Vbdlac
def leQ (a b : Q) : Prop := a.num * (b.den : Int) ≤ b.num * (a.den : Int)
theorem leQ.refl (a : Q) : leQ a a := Int.le_refl _
theorem leQ.trans {a b c : Q} (hb : 0 < b.den) (ha : 0 < a.den) (hc : 0 < c.den) (h1 : leQ a b) (h2 : leQ b c) : leQ a c := by
  unfold leQ at *
  have hb' : 0 < (b.den : Int) := by omega
  have ha' : 0 ≤ (a.den : Int) := by omega
  have hc' : 0 ≤ (c.den : Int) := by omega
  have e1 := Int.mul_le_mul_of_nonneg_right h1 hc'
  have e2 := Int.mul_le_mul_of_nonneg_right h2 ha'
  have e3 : a.num * (c.den : Int) * (b.den : Int) ≤ c.num * (a.den : Int) * (b.den : Int) := by
    have q1 : a.num * (c.den : Int) * (b.den : Int) = a.num * (b.den : Int) * (c.den : Int) := by ac_rfl
    have q2 : c.num * (a.den : Int) * (b.den : Int) = c.num * (b.den : Int) * (a.den : Int) := by ac_rfl
    have q3 : b.num * (a.den : Int) * (c.den : Int) = b.num * (c.den : Int) * (a.den : Int) := by ac_rfl
    omega
  exact Int.le_of_mul_le_mul_right e3 hb'
theorem leQ_q {n n' : Int} {d d' : Nat} (hd : 0 < d) (hd' : 0 < d') (h : n * (d' : Int) ≤ n' * (d : Int)) : leQ (q n d) (q n' d') := by
  have e1 := q_cross n hd
  have e2 := q_cross n' hd'
  have p1 : 0 < ((q n d).den : Int) := by have := q_den_pos (n := n) hd; omega
  have p2 : 0 < ((q n' d').den : Int) := by have := q_den_pos (n := n') hd'; omega
  unfold leQ
  generalize (q n d).num = a at *
  generalize ((q n d).den : Int) = b at *
  generalize (q n' d').num = a' at *
  generalize ((q n' d').den : Int) = b' at *
  have pd : 0 < (d : Int) := by omega
  have pd' : 0 < (d' : Int) := by omega
  generalize (d : Int) = D at *
  generalize (d' : Int) = D' at *
  have h2 := Int.mul_le_mul_of_nonneg_right (Int.mul_le_mul_of_nonneg_right h (Int.le_of_lt p1)) (Int.le_of_lt p2)
  have q1 : n * D' * b * b' = a * b' * (D * D') := by
    calc n * D' * b * b' = (n * b) * (D' * b') := by ac_rfl
      _ = (a * D) * (D' * b') := by rw [e1]
      _ = a * b' * (D * D') := by ac_rfl
  have q2 : n' * D * b * b' = a' * b * (D * D') := by
    calc n' * D * b * b' = (n' * b') * (D * b) := by ac_rfl
      _ = (a' * D') * (D * b) := by rw [e2]
      _ = a' * b * (D * D') := by ac_rfl
  rw [q1, q2] at h2
  exact Int.le_of_mul_le_mul_right h2 (Int.mul_pos pd pd')
theorem leQ_floor {a b : Q} (ha : 0 < a.den) (hb : 0 < b.den) (h : leQ a b) : floorQ a ≤ floorQ b := by
  unfold floorQ
  unfold leQ at h
  have ha' : 0 < (a.den : Int) := by omega
  have hb' : 0 < (b.den : Int) := by omega
  generalize (a.den : Int) = D at *
  generalize (b.den : Int) = D' at *
  rw [Int.le_ediv_iff_mul_le hb']
  have h1 := Int.ediv_mul_le a.num (Int.ne_of_gt ha')
  have h2 := Int.mul_le_mul_of_nonneg_right h1 (Int.le_of_lt hb')
  have h3 : a.num / D * D' * D ≤ b.num * D := by
    have e : a.num / D * D' * D = a.num / D * D * D' := by ac_rfl
    omega
  exact Int.le_of_mul_le_mul_right h3 ha'
theorem leQ_mul {g a b : Q} (hg : 0 ≤ g.num) (gd : 0 < g.den) (ha : 0 < a.den) (hb : 0 < b.den) (h : leQ a b) : leQ (mulQ g a) (mulQ g b) := by
  refine leQ_q (Nat.mul_pos gd ha) (Nat.mul_pos gd hb) ?_
  unfold leQ at h
  rw [Int.natCast_mul, Int.natCast_mul]
  have h2 := Int.mul_le_mul_of_nonneg_left h (Int.mul_nonneg hg (show (0 : Int) ≤ (g.den : Int) by omega))
  have e1 : g.num * a.num * ((g.den : Int) * (b.den : Int)) = g.num * (g.den : Int) * (a.num * (b.den : Int)) := by ac_rfl
  have e2 : g.num * b.num * ((g.den : Int) * (a.den : Int)) = g.num * (g.den : Int) * (b.num * (a.den : Int)) := by ac_rfl
  omega
theorem leQ_add {a b o : Q} (ha : 0 < a.den) (hb : 0 < b.den) (od : 0 < o.den) (h : leQ a b) : leQ (addQ a o) (addQ b o) := by
  refine leQ_q (Nat.mul_pos ha od) (Nat.mul_pos hb od) ?_
  unfold leQ at h
  rw [Int.natCast_mul, Int.natCast_mul]
  have h2 := Int.mul_le_mul_of_nonneg_left h (show (0 : Int) ≤ (o.den : Int) * (o.den : Int) from Int.mul_nonneg (by omega) (by omega))
  have e1 : (a.num * (o.den : Int) + o.num * (a.den : Int)) * ((b.den : Int) * (o.den : Int)) = (o.den : Int) * (o.den : Int) * (a.num * (b.den : Int)) + o.num * (a.den : Int) * ((b.den : Int) * (o.den : Int)) := by
    rw [Int.add_mul]
    congr 1
    ac_rfl
  have e2 : (b.num * (o.den : Int) + o.num * (b.den : Int)) * ((a.den : Int) * (o.den : Int)) = (o.den : Int) * (o.den : Int) * (b.num * (a.den : Int)) + o.num * (a.den : Int) * ((b.den : Int) * (o.den : Int)) := by
    rw [Int.add_mul]
    congr 1
    · ac_rfl
    · ac_rfl
  omega
def btw (a b : Int × Int) (c : Int) : Q := q (a.2 * (b.1 - a.1) + (c - a.1) * (b.2 - a.2)) (b.1 - a.1).toNat
theorem q_add_whole (v n : Int) {d : Nat} (hd : 0 < d) : addQ (whole v) (q n d) = q (v * (d : Int) + n) d := by
  have hg := gcd_pos n hd
  have h1 : ((Nat.gcd n.natAbs d : Nat) : Int) ∣ n := Int.dvd_natAbs.mp (Int.natCast_dvd_natCast.mpr (Nat.gcd_dvd_left _ _))
  have h2 : Nat.gcd n.natAbs d ∣ d := Nat.gcd_dvd_right _ _
  show q (v * (((q n d).den : Nat) : Int) + (q n d).num * ((1 : Nat) : Int)) (1 * (q n d).den) = _
  rw [q_num, q_den]
  generalize Nat.gcd n.natAbs d = g at *
  obtain ⟨a, rfl⟩ := h1
  obtain ⟨b, rfl⟩ := h2
  rw [Int.mul_ediv_cancel_left _ (by omega), Nat.mul_div_cancel_left _ hg, Nat.one_mul, ← q_scale hg, Int.natCast_mul]
  congr 1
  rw [Int.mul_add]
  congr 1
  · ac_rfl
  · simp
theorem btw_eq {a b : Int × Int} (c : Int) (h : a.1 < b.1) : addQ (whole a.2) (q ((c - a.1) * (b.2 - a.2)) (b.1 - a.1).toNat) = btw a b c := by
  have hd : 0 < (b.1 - a.1).toNat := by omega
  rw [q_add_whole _ _ hd]
  unfold btw
  rw [show (((b.1 - a.1).toNat : Nat) : Int) = b.1 - a.1 by omega]
theorem btw_left {a b : Int × Int} (h : a.1 < b.1) : btw a b a.1 = whole a.2 := by
  unfold btw
  rw [Int.sub_self, Int.zero_mul, Int.add_zero]
  have e := q_whole a.2 (d := (b.1 - a.1).toNat) (by omega)
  rw [show (((b.1 - a.1).toNat : Nat) : Int) = b.1 - a.1 by omega] at e
  exact e
theorem interp_first {a : Int × Int} {l : Table} {c : Int} (h : c ≤ a.1) : interp (a :: l) c = whole a.2 := by
  cases l with
  | nil => rfl
  | cons b l =>
    show (if c ≤ a.1 then _ else _) = _
    rw [if_pos h]
theorem interp_hit {a b : Int × Int} {l : Table} {c : Int} (h : a.1 < b.1) (h1 : a.1 ≤ c) (h2 : c < b.1) : interp (a :: b :: l) c = btw a b c := by
  by_cases e : c ≤ a.1
  · have e' : c = a.1 := by omega
    subst e'
    rw [interp_first (Int.le_refl _), btw_left h]
  · show (if c ≤ a.1 then _ else if c < b.1 then _ else _) = _
    rw [if_neg e, if_pos h2, btw_eq c h]
theorem interp_skip {a b : Int × Int} {l : Table} {c : Int} (h : a.1 < b.1) (h1 : b.1 ≤ c) : interp (a :: b :: l) c = interp (b :: l) c := by
  show (if c ≤ a.1 then _ else if c < b.1 then _ else _) = _
  rw [if_neg (by omega), if_neg (by omega)]
theorem rising_cons {a b : Int × Int} {l : Table} (h : rising (a :: b :: l) = true) : a.1 < b.1 ∧ a.2 < b.2 ∧ rising (b :: l) = true := by
  have h : (decide (a.1 < b.1) && (decide (a.2 < b.2) && rising (b :: l))) = true := h
  rw [Bool.and_eq_true, Bool.and_eq_true, decide_eq_true_eq, decide_eq_true_eq] at h
  exact h
theorem btw_den {a b : Int × Int} (c : Int) (h : a.1 < b.1) : 0 < (btw a b c).den := q_den_pos (by omega)
theorem interp_den : ∀ {t : Table} (c : Int), rising t = true → 0 < (interp t c).den
  | [], _, _ => Nat.one_pos
  | [_], _, _ => Nat.one_pos
  | a :: b :: l, c, h => by
    obtain ⟨h1, h2, h3⟩ := rising_cons h
    by_cases e : c ≤ a.1
    · rw [interp_first e]
      exact Nat.one_pos
    · by_cases e2 : c < b.1
      · rw [interp_hit h1 (by omega) e2]
        exact btw_den c h1
      · rw [interp_skip h1 (by omega)]
        exact interp_den c h3
theorem btw_mono {a b : Int × Int} {c c' : Int} (h : a.1 < b.1) (h2 : a.2 < b.2) (hc : c ≤ c') : leQ (btw a b c) (btw a b c') := by
  have hd : 0 < (b.1 - a.1).toNat := by omega
  refine leQ_q hd hd ?_
  refine Int.mul_le_mul_of_nonneg_right ?_ (by omega)
  have := Int.mul_le_mul_of_nonneg_right (show c - a.1 ≤ c' - a.1 by omega) (show 0 ≤ b.2 - a.2 by omega)
  omega
theorem btw_right {a b : Int × Int} (h : a.1 < b.1) : btw a b b.1 = whole b.2 := by
  unfold btw
  have e := q_whole b.2 (d := (b.1 - a.1).toNat) (by omega)
  rw [show (((b.1 - a.1).toNat : Nat) : Int) = b.1 - a.1 by omega] at e
  rw [show a.2 * (b.1 - a.1) + (b.1 - a.1) * (b.2 - a.2) = b.2 * (b.1 - a.1) by
    rw [Int.mul_comm (b.1 - a.1) (b.2 - a.2), ← Int.add_mul]
    congr 1
    omega]
  exact e
theorem whole_le {x y : Int} (h : x ≤ y) : leQ (whole x) (whole y) := by
  show x * ((1 : Nat) : Int) ≤ y * ((1 : Nat) : Int)
  omega
theorem interp_low : ∀ {a : Int × Int} {l : Table} (c : Int), rising (a :: l) = true → leQ (whole a.2) (interp (a :: l) c)
  | a, [], c, _ => leQ.refl _
  | a, b :: l, c, h => by
    obtain ⟨h1, h2, h3⟩ := rising_cons h
    by_cases e : c ≤ a.1
    · rw [interp_first e]
      exact leQ.refl _
    · by_cases e2 : c < b.1
      · rw [interp_hit h1 (by omega) e2, ← btw_left h1]
        exact btw_mono h1 h2 (by omega)
      · rw [interp_skip h1 (by omega)]
        exact leQ.trans Nat.one_pos Nat.one_pos (interp_den c h3) (whole_le (Int.le_of_lt h2)) (interp_low c h3)
theorem interp_mono : ∀ {t : Table} {c c' : Int}, rising t = true → c ≤ c' → leQ (interp t c) (interp t c')
  | [], _, _, _, _ => leQ.refl _
  | [_], _, _, _, _ => leQ.refl _
  | a :: b :: l, c, c', h, hc => by
    obtain ⟨h1, h2, h3⟩ := rising_cons h
    by_cases e : c ≤ a.1
    · rw [interp_first e]
      exact interp_low c' h
    · by_cases e2 : c < b.1
      · rw [interp_hit h1 (by omega) e2]
        by_cases e3 : c' < b.1
        · rw [interp_hit h1 (by omega) e3]
          exact btw_mono h1 h2 hc
        · rw [interp_skip h1 (by omega)]
          have q1 : leQ (btw a b c) (whole b.2) := by
            rw [← btw_right h1]
            exact btw_mono h1 h2 (by omega)
          exact leQ.trans Nat.one_pos (btw_den c h1) (interp_den c' h3) q1 (interp_low c' h3)
      · rw [interp_skip h1 (by omega), interp_skip h1 (by omega)]
        exact interp_mono h3 hc
theorem value_mono {f : Form} {ch : Channel} {c c' : Int} (hr : rising f.table = true) (g0 : 0 ≤ ch.gain.num) (gd : 0 < ch.gain.den) (od : 0 < ch.offset.den) (hc : c ≤ c') : value f ch c ≤ value f ch c' := by
  have i1 := interp_den c hr
  have i2 := interp_den c' hr
  refine leQ_floor (q_den_pos (Nat.mul_pos (q_den_pos (Nat.mul_pos gd i1)) od)) (q_den_pos (Nat.mul_pos (q_den_pos (Nat.mul_pos gd i2)) od)) ?_
  exact leQ_add (q_den_pos (Nat.mul_pos gd i1)) (q_den_pos (Nat.mul_pos gd i2)) od (leQ_mul g0 gd i1 i2 (interp_mono hr hc))
theorem least_eq (f : Form) (ch : Channel) (v : Int) : ∀ (m n L : Nat), n ≤ L → L ≤ n + m → (∀ i : Nat, n ≤ i → i < L → value f ch (i : Int) < v) → (∀ i : Nat, L ≤ i → i < n + m → v ≤ value f ch (i : Int)) →
    leastFrom f ch v n m = if L = n + m then none else some L
  | 0, n, L, h1, h2, _, _ => by
    rw [if_pos (by omega)]
    rfl
  | m + 1, n, L, h1, h2, lo, hi => by
    show (if v ≤ value f ch (n : Int) then some n else leastFrom f ch v (n + 1) m) = _
    by_cases e : L = n
    · subst e
      rw [if_pos (hi L (Nat.le_refl _) (by omega)), if_neg (by omega)]
    · have := lo n (Nat.le_refl _) (by omega)
      rw [if_neg (by omega), least_eq f ch v m (n + 1) L (by omega) (by omega) (fun i a b => lo i (by omega) b) (fun i a b => hi i a (by omega))]
      rw [show n + 1 + m = n + (m + 1) by omega]
theorem insert_perm (x : Int) : ∀ l : List Int, (insertInt x l).Perm (x :: l)
  | [] => List.Perm.refl _
  | y :: l => by
    show (if x ≤ y then x :: y :: l else y :: insertInt x l).Perm _
    by_cases h : x ≤ y
    · rw [if_pos h]
    · rw [if_neg h]
      exact ((insert_perm x l).cons y).trans (List.Perm.swap _ _ _)
theorem sort_perm : ∀ l : List Int, (sortInts l).Perm l
  | [] => List.Perm.refl _
  | x :: l => (insert_perm x (sortInts l)).trans ((sort_perm l).cons x)
theorem insert_sorted (x : Int) : ∀ {l : List Int}, l.Pairwise (· ≤ ·) → (insertInt x l).Pairwise (· ≤ ·)
  | [], _ => by
    show [x].Pairwise _
    simp
  | y :: l, h => by
    rw [List.pairwise_cons] at h
    show (if x ≤ y then x :: y :: l else y :: insertInt x l).Pairwise _
    by_cases e : x ≤ y
    · rw [if_pos e]
      refine List.pairwise_cons.mpr ⟨fun z hz => ?_, List.pairwise_cons.mpr h⟩
      rcases List.mem_cons.mp hz with rfl | hz
      · exact e
      · exact Int.le_trans e (h.1 z hz)
    · rw [if_neg e]
      refine List.pairwise_cons.mpr ⟨fun z hz => ?_, insert_sorted x h.2⟩
      rcases List.mem_cons.mp ((insert_perm x l).mem_iff.mp hz) with rfl | hz
      · omega
      · exact h.1 z hz
theorem sort_sorted : ∀ l : List Int, (sortInts l).Pairwise (· ≤ ·)
  | [] => List.Pairwise.nil
  | x :: l => insert_sorted x (sort_sorted l)
theorem sorted_eq : ∀ {l m : List Int}, l.Perm m → l.Pairwise (· ≤ ·) → m.Pairwise (· ≤ ·) → l = m
  | [], m, p, _, _ => (List.nil_perm.mp p).symm
  | a :: l, [], p, _, _ => absurd p.length_eq (by simp)
  | a :: l, b :: m, p, h1, h2 => by
    rw [List.pairwise_cons] at h1 h2
    have e : a = b := by
      have i1 : b ∈ a :: l := p.mem_iff.mpr (List.mem_cons_self ..)
      have i2 : a ∈ b :: m := p.mem_iff.mp (List.mem_cons_self ..)
      rcases List.mem_cons.mp i1 with r | r
      · exact r.symm
      · rcases List.mem_cons.mp i2 with r' | r'
        · exact r'
        · have := h1.1 b r
          have := h2.1 a r'
          omega
    subst e
    rw [sorted_eq (List.Perm.cons_inv p) h1.2 h2.2]
theorem sort_len (l : List Int) : (sortInts l).length = l.length := (sort_perm l).length_eq
theorem middle_some {l : List Int} (h : 0 < l.length) : ∃ m, middle l = some m ∧ m ∈ l := by
  have hl := sort_len l
  have h1 : (l.length - 1) / 2 < (sortInts l).length := by omega
  refine ⟨(sortInts l)[(l.length - 1) / 2], ?_, ?_⟩
  · show (sortInts l)[(l.length - 1) / 2]? = _
    rw [List.getElem?_eq_getElem h1]
  · exact (sort_perm l).mem_iff.mp (List.getElem_mem h1)
theorem middle_nil : middle [] = none := rfl
theorem middle_of {l l' : List Int} (p : l'.Perm l) (s : l'.Pairwise (· ≤ ·)) : middle l = l'[(l'.length - 1) / 2]? := by
  have e : l' = sortInts l := sorted_eq (p.trans (sort_perm l).symm) s (sort_sorted l)
  rw [p.length_eq, e]
  rfl
theorem foldl_add : ∀ (l : List Int) (a : Int), l.foldl (fun a b => a + b) a = a + l.sum
  | [], a => by simp
  | x :: l, a => by
    rw [List.foldl_cons, foldl_add l, List.sum_cons]
    omega
theorem sum_eq (l : List Int) : Vbdlac.sum l = l.sum := by
  show l.foldl (fun a b => a + b) 0 = _
  rw [foldl_add]
  omega
theorem dev_nonneg (x : Int) : ∀ l : Table, 0 ≤ (l.map fun p => p.1 * p.1).sum - 2 * x * (l.map fun p => p.1).sum + (l.length : Int) * (x * x)
  | [] => by simp
  | p :: l => by
    have ih := dev_nonneg x l
    rw [List.map_cons, List.map_cons, List.sum_cons, List.sum_cons, List.length_cons]
    have h : 0 ≤ (p.1 - x) * (p.1 - x) := by
      by_cases z : 0 ≤ p.1 - x
      · exact Int.mul_nonneg z z
      · have := Int.mul_nonneg (show 0 ≤ -(p.1 - x) by omega) (show 0 ≤ -(p.1 - x) by omega)
        rw [Int.neg_mul_neg] at this
        exact this
    have e : (p.1 - x) * (p.1 - x) = p.1 * p.1 - 2 * x * p.1 + x * x := by
      rw [Int.sub_mul, Int.mul_sub, Int.mul_sub]
      have : x * p.1 = p.1 * x := Int.mul_comm _ _
      have : 2 * x * p.1 = 2 * (p.1 * x) := by rw [Int.mul_assoc, Int.mul_comm x]
      omega
    have e2 : 2 * x * (p.1 + (l.map fun p => p.1).sum) = 2 * x * p.1 + 2 * x * (l.map fun p => p.1).sum := Int.mul_add _ _ _
    have e3 : ((l.length + 1 : Nat) : Int) * (x * x) = (l.length : Int) * (x * x) + x * x := by
      rw [Int.natCast_add, Int.add_mul]
      simp
    omega
theorem spread_nonneg : ∀ l : Table, 0 ≤ (l.length : Int) * (l.map fun p => p.1 * p.1).sum - (l.map fun p => p.1).sum * (l.map fun p => p.1).sum
  | [] => by simp
  | p :: l => by
    have ih := spread_nonneg l
    have d := dev_nonneg p.1 l
    rw [List.map_cons, List.map_cons, List.sum_cons, List.sum_cons, List.length_cons]
    generalize (l.map fun p => p.1 * p.1).sum = T at *
    generalize (l.map fun p => p.1).sum = S at *
    generalize l.length = n at *
    generalize p.1 = x at *
    have e1 : ((n + 1 : Nat) : Int) * (x * x + T) = (n : Int) * (x * x) + (n : Int) * T + x * x + T := by
      rw [Int.natCast_add, Int.add_mul, Int.mul_add]
      simp
      omega
    have e2 : (x + S) * (x + S) = x * x + 2 * x * S + S * S := by
      rw [Int.add_mul, Int.mul_add, Int.mul_add]
      have : S * x = x * S := Int.mul_comm _ _
      have : 2 * x * S = 2 * (x * S) := Int.mul_assoc _ _ _
      omega
    omega
end Tw
set_option linter.all false
namespace Tw
open Vbdlac
structure TblOk (l : Table) : Prop where
  rise : rising l = true
  lo : 2 ≤ l.length
  hi : l.length ≤ 8
  cs : ∀ p ∈ l, 0 ≤ p.1 ∧ p.1 ≤ 65535
  vs : ∀ p ∈ l, -1000000000 ≤ p.2 ∧ p.2 ≤ 1000000000
structure FormOk (f : Form) : Prop where
  w : f.width ≤ 5
  tbl : TblOk f.table
structure ChOk (c : Channel) : Prop where
  g : QB 40 c.gain
  gp : 0 < c.gain.num
  o : QB 40 c.offset
  wl : c.window.length ≤ 5
  wc : ∀ n ∈ c.window, 0 ≤ n ∧ n ≤ 65535
structure SeOk (s : Sensor) : Prop where
  f : FormOk s.form
  a : ChOk s.a
  b : ChOk s.b
def StOk (l : List Sensor) : Prop := l.length ≤ 16 ∧ ∀ s ∈ l, SeOk s
def Cnt (n : Int) : Prop := 0 ≤ n ∧ n ≤ 65535
theorem mul_abs {x y : Int} {m n : Nat} (hx : x.natAbs < 2 ^ m) (hy : y.natAbs < 2 ^ n) : (x * y).natAbs < 2 ^ (m + n) := by
  rw [Int.natAbs_mul]
  exact mul_lt_pow hx hy
theorem add_abs {x y : Int} {n : Nat} (hx : x.natAbs < 2 ^ n) (hy : y.natAbs < 2 ^ n) : (x + y).natAbs < 2 ^ (n + 1) := Nat.lt_of_le_of_lt (Int.natAbs_add_le _ _) (add_lt_pow hx hy)
theorem btw_bound {a b : Int × Int} {c : Int} (h : a.1 < b.1) (ha : 0 ≤ a.1) (hb : b.1 ≤ 65535) (hc : Cnt c) (va : -1000000000 ≤ a.2 ∧ a.2 ≤ 1000000000) (vb : -1000000000 ≤ b.2 ∧ b.2 ≤ 1000000000) : QB 49 (btw a b c) := by
  obtain ⟨c0, c1⟩ := hc
  have h1 : (b.1 - a.1).natAbs < 2 ^ 16 := by omega
  have h2 : a.2.natAbs < 2 ^ 30 := by omega
  have h3 : (c - a.1).natAbs < 2 ^ 17 := by omega
  have h4 : (b.2 - a.2).natAbs < 2 ^ 31 := by omega
  refine q_bound (by omega) ?_ (by omega)
  have e1 := mul_abs h2 h1
  have e2 := mul_abs h3 h4
  exact add_abs (n := 48) (Nat.lt_of_lt_of_le e1 (pow_le (by decide))) e2
theorem interp_bound : ∀ {l : Table} {c : Int}, rising l = true → (∀ p ∈ l, 0 ≤ p.1 ∧ p.1 ≤ 65535) → (∀ p ∈ l, -1000000000 ≤ p.2 ∧ p.2 ≤ 1000000000) → Cnt c → QB 49 (interp l c)
  | [], _, _, _, _, _ => (show QB 49 (whole 0) from ⟨by decide, by decide, by decide⟩)
  | [a], _, _, _, hv, _ => by
    obtain ⟨v1, v2⟩ := hv a (List.mem_cons_self ..)
    exact QB.whole (n := 49) (by omega) (by decide)
  | a :: b :: l, c, hr, hcs, hv, hc => by
    obtain ⟨h1, h2, h3⟩ := rising_cons hr
    have ca := hcs a (by simp)
    have cb := hcs b (by simp)
    have va := hv a (by simp)
    have vb := hv b (by simp)
    by_cases e : c ≤ a.1
    · rw [interp_first e]
      exact QB.whole (n := 49) (by omega) (by decide)
    · by_cases e2 : c < b.1
      · rw [interp_hit h1 (by omega) e2]
        exact btw_bound h1 ca.1 cb.2 hc va vb
      · rw [interp_skip h1 (by omega)]
        exact interp_bound h3 (fun p hp => hcs p (List.mem_cons_of_mem _ hp)) (fun p hp => hv p (List.mem_cons_of_mem _ hp)) hc
theorem TblOk.bound {l : Table} {c : Int} (h : TblOk l) (hc : Cnt c) : QB 49 (interp l c) := interp_bound h.rise h.cs h.vs hc
theorem by_bound {g o : Q} {l : Table} {c : Int} (hg : QB 40 g) (ho : QB 40 o) (h : TblOk l) (hc : Cnt c) : QB 130 (addQ (mulQ g (interp l c)) o) := (hg.mul (h.bound hc)).add ho
theorem exact_bound {f : Form} {ch : Channel} {c : Int} (hf : FormOk f) (h : ChOk ch) (hc : Cnt c) : QB 130 (exact f ch c) := by_bound h.g h.o hf.tbl hc
theorem new_ok : ChOk newChannel := ⟨⟨by decide, by decide, by decide⟩, by decide, ⟨by decide, by decide, by decide⟩, by decide, fun n h => by cases h⟩
theorem latch_ok {c : Channel} (k : Nat) (h : ChOk c) : ChOk (latch c k) := by
  unfold latch
  split
  · exact ⟨h.g, h.gp, h.o, h.wl, h.wc⟩
  · exact h
theorem take_ok {f : Form} {c : Channel} {n : Int} (hf : FormOk f) (h : ChOk c) (hn : Cnt n) : ChOk (take f c n) := by
  unfold take
  split
  · dsimp only
    split
    · exact latch_ok _ ⟨h.g, h.gp, h.o, h.wl, h.wc⟩
    · exact ⟨h.g, h.gp, h.o, h.wl, h.wc⟩
  · have key : ∀ (s : Nat), ChOk { c with window := (n :: c.window).take f.width, same := s, out := 0 } := fun s => by
      refine ⟨h.g, h.gp, h.o, ?_, fun x hx => ?_⟩
      · show ((n :: c.window).take f.width).length ≤ 5
        rw [List.length_take]
        have := hf.w
        omega
      · have hx' := List.mem_of_mem_take hx
        rcases List.mem_cons.mp hx' with rfl | hx'
        · exact hn
        · exact h.wc x hx'
    dsimp only
    generalize (if c.window.head? = some n then min (c.same + 1) 1000 else 1) = z
    by_cases hz : 0 < f.stuck ∧ f.stuck ≤ z
    · rw [if_pos hz]
      exact latch_ok _ (key _)
    · rw [if_neg hz]
      exact key _
theorem judged_ok {f : Form} {c : Channel} {v : Int} (h : ChOk c) : ChOk (judged f c v) := by
  unfold judged
  split
  · exact ⟨h.g, h.gp, h.o, h.wl, h.wc⟩
  · exact latch_ok _ h
theorem clear_ok {c : Channel} (h : ChOk c) : ChOk { c with window := [], same := 0, out := 0 } := ⟨h.g, h.gp, h.o, Nat.zero_le _, fun n z => by cases z⟩
theorem fine_bound {a : Q} (h : fine a = true) (hd : 0 < a.den) : QB 40 a := by
  unfold fine FINE at h
  rw [Bool.and_eq_true, decide_eq_true_eq, decide_eq_true_eq] at h
  have e : 10 ^ 12 ≤ 2 ^ 40 := by decide
  exact ⟨Nat.lt_of_lt_of_le h.1 e, hd, Nat.lt_of_lt_of_le h.2 e⟩
theorem sub_pos {a b : Q} (ha : 0 < a.den) (hb : 0 < b.den) (h : lessQ a b = true) : 0 < (subQ b a).num := by
  unfold lessQ at h
  rw [decide_eq_true_eq] at h
  rw [subQ_eq]
  exact q_num_pos (by omega) (Nat.mul_pos hb ha)
theorem corrected_gain_pos {c : Channel} {x1 x2 : Q} {v1 v2 : Int} (h1 : 0 < x1.den) (h2 : 0 < x2.den) (hl : lessQ x1 x2 = true) (hv : v1 < v2) (hg : 0 < c.gain.num) (gd : 0 < c.gain.den) :
    0 < (corrected c x1 x2 v1 v2).gain.num ∧ 0 < (corrected c x1 x2 v1 v2).gain.den := by
  have s0 := sub_pos h1 h2 hl
  have sd : 0 < (subQ x2 x1).den := by rw [subQ_eq]; exact q_den_pos (Nat.mul_pos h2 h1)
  have hp : 0 < (divQ (whole (v2 - v1)) (subQ x2 x1)).num := by
    rw [divQ_pos s0]
    refine q_num_pos (Int.mul_pos (show 0 < v2 - v1 by omega) (by omega)) (Nat.mul_pos Nat.one_pos (by omega))
  have hd : 0 < (divQ (whole (v2 - v1)) (subQ x2 x1)).den := by
    rw [divQ_pos s0]
    exact q_den_pos (Nat.mul_pos Nat.one_pos (by omega))
  exact ⟨q_num_pos (Int.mul_pos hp hg) (Nat.mul_pos hd gd), q_den_pos (Nat.mul_pos hd gd)⟩
theorem corrected_off_den {c : Channel} {x1 x2 : Q} {v1 v2 : Int} (h1 : 0 < x1.den) (h2 : 0 < x2.den) (hl : lessQ x1 x2 = true) (od : 0 < c.offset.den) : 0 < (corrected c x1 x2 v1 v2).offset.den := by
  have s0 := sub_pos h1 h2 hl
  have hd : 0 < (divQ (whole (v2 - v1)) (subQ x2 x1)).den := by
    rw [divQ_pos s0]
    exact q_den_pos (Nat.mul_pos Nat.one_pos (by omega))
  have ed : 0 < (subQ c.offset x1).den := by rw [subQ_eq]; exact q_den_pos (Nat.mul_pos od h1)
  exact q_den_pos (Nat.mul_pos (q_den_pos (Nat.mul_pos hd ed)) Nat.one_pos)
def corr (f : Form) (ch : Channel) (c1 v1 c2 v2 : Int) : Channel × Int :=
  if lessQ (exact f ch c1) (exact f ch c2) = false then (ch, -4)
  else if v2 ≤ v1 then (ch, -5)
  else if tame f (corrected ch (exact f ch c1) (exact f ch c2) v1 v2) = false then (ch, -6) else (corrected ch (exact f ch c1) (exact f ch c2) v1 v2, 1)
theorem tame_fine {f : Form} {c : Channel} (h : tame f c = true) : fine c.gain = true ∧ fine c.offset = true := by
  unfold tame at h
  rw [Bool.and_eq_true, Bool.and_eq_true] at h
  exact ⟨h.1, h.2.1⟩
theorem corr_ok {f : Form} {ch : Channel} {c1 v1 c2 v2 : Int} (hf : FormOk f) (h : ChOk ch) (hc1 : Cnt c1) (hc2 : Cnt c2) : ChOk (corr f ch c1 v1 c2 v2).1 := by
  have b1 := exact_bound hf h hc1
  have b2 := exact_bound hf h hc2
  unfold corr
  split
  · exact h
  · split
    · exact h
    · split
      · exact h
      · rename_i n1 n2 n3
        have hl : lessQ (exact f ch c1) (exact f ch c2) = true := by simpa using n1
        have ht : tame f (corrected ch (exact f ch c1) (exact f ch c2) v1 v2) = true := by simpa using n3
        obtain ⟨f1, f2⟩ := tame_fine ht
        obtain ⟨p1, p2⟩ := corrected_gain_pos (c := ch) b1.dp b2.dp hl (show v1 < v2 by omega) h.gp h.g.dp
        exact ⟨fine_bound f1 p2, p1, fine_bound f2 (corrected_off_den b1.dp b2.dp hl h.o.dp), h.wl, h.wc⟩
def cmpS (s : Sensor) : Sensor := match trusted s.form s.a, trusted s.form s.b with
  | some x, some y =>
    if s.form.tol < far x y then
      let u := min (s.unlike + 1) s.form.times
      if u = s.form.times then { s with unlike := 0, a := latch s.a 3, b := latch s.b 3 } else { s with unlike := u }
    else { s with unlike := 0 }
  | _, _ => s
theorem compare_eq (s : Sensor) (m n : Int) : compare s m n = if inRange s.form m = false ∨ inRange s.form n = false then s else cmpS s := rfl
def watchS (s : Sensor) : Sensor := match s.limits, reading s with
  | some l, some v => { s with limits := some (watched s.form.times l v) }
  | _, _ => s
theorem sample_eq (s : Sensor) (m n : Int) : sample s m n = watchS (compare { s with a := take s.form s.a m, b := take s.form s.b n } m n) := rfl
theorem cmpS_ok {s : Sensor} (h : SeOk s) : SeOk (cmpS s) := by
  unfold cmpS
  split
  · dsimp only
    split
    · split
      · exact ⟨h.f, latch_ok _ h.a, latch_ok _ h.b⟩
      · exact ⟨h.f, h.a, h.b⟩
    · exact ⟨h.f, h.a, h.b⟩
  · exact h
theorem compare_ok {s : Sensor} {m n : Int} (h : SeOk s) : SeOk (compare s m n) := by
  rw [compare_eq]
  split
  · exact h
  · exact cmpS_ok h
theorem watchS_ok {s : Sensor} (h : SeOk s) : SeOk (watchS s) := by
  unfold watchS
  split
  · exact ⟨h.f, h.a, h.b⟩
  · exact h
theorem sample_ok {s : Sensor} {m n : Int} (h : SeOk s) (hm : Cnt m) (hn : Cnt n) : SeOk (sample s m n) := by
  rw [sample_eq]
  exact watchS_ok (compare_ok ⟨h.f, take_ok h.f h.a hm, take_ok h.f h.b hn⟩)
theorem samples_ok : ∀ {l : List (Int × Int)} {s : Sensor}, SeOk s → (∀ p ∈ l, Cnt p.1 ∧ Cnt p.2) → SeOk (samples s l)
  | [], _, h, _ => h
  | p :: l, s, h, hl => samples_ok (l := l) (sample_ok h (hl p (List.mem_cons_self ..)).1 (hl p (List.mem_cons_self ..)).2) fun q hq => hl q (List.mem_cons_of_mem _ hq)
def forms : List (Nat × Nat) := [(7, 2), (4, 0), (3, 0), (1, 2), (1, 0), (3, 0), (3, 0), (6, 0), (2, 0), (2, 0), (5, 0), (0, 1), (0, 2), (1, 0), (1, 0), (0, 0), (1, 0)]
def formAt (p : Int) : Nat × Nat := forms.getD p.toNat (0, 0)
def hasForm : List Int → Bool
  | [] => false
  | p :: r => decide (0 ≤ p ∧ p < 17) && (if (formAt p).2 = 0 then decide (r.length = (formAt p).1) else decide ((formAt p).1 < r.length) && decide (r.getD (formAt p).1 0 * ((formAt p).2 : Int) = (r.length : Int) - ((formAt p).1 : Int) - 1))
theorem listOf_some {k : Nat} {r l : List Int} (h : listOf k r = some l) : ∃ n, r = n :: l ∧ n * (k : Int) = (l.length : Int) := by
  cases r with
  | nil => cases h
  | cons n t =>
    have h : (if 0 ≤ n ∧ n * (k : Int) = (t.length : Int) then some t else none) = some l := h
    by_cases c : 0 ≤ n ∧ n * (k : Int) = (t.length : Int)
    · rw [if_pos c] at h
      cases h
      exact ⟨n, rfl, c.2⟩
    · rw [if_neg c] at h
      cases h
theorem listOf_mk {k : Nat} {n : Int} {l : List Int} (hk : 0 < k) (h : n * (k : Int) = (l.length : Int)) : listOf k (n :: l) = some l := by
  have h0 : 0 ≤ n := by
    by_cases z : 0 ≤ n
    · exact z
    · have h1 : n * (k : Int) < 0 := Int.mul_neg_of_neg_of_pos (by omega) (by omega)
      omega
  show (if 0 ≤ n ∧ n * (k : Int) = (l.length : Int) then some l else none) = some l
  rw [if_pos ⟨h0, h⟩]
theorem map_some_of {α β : Type} {o : Option α} {f : α → β} {b : β} (h : o.map f = some b) : ∃ a, o = some a ∧ f a = b := by
  cases o with
  | none => cases h
  | some a => exact ⟨a, rfl, Option.some.inj h⟩
theorem hasForm_of_decode {ns : List Int} {c : Call} (h : decode ns = some c) : hasForm ns = true := by
  unfold decode at h
  split at h
  case h_1 =>
    obtain ⟨l, h1, _⟩ := map_some_of h
    obtain ⟨n, rfl, e⟩ := listOf_some h1
    simp [hasForm, formAt, forms]
    omega
  case h_4 =>
    obtain ⟨l, h1, _⟩ := map_some_of h
    obtain ⟨n, rfl, e⟩ := listOf_some h1
    simp [hasForm, formAt, forms]
    omega
  case h_12 =>
    obtain ⟨l, h1, _⟩ := map_some_of h
    obtain ⟨n, rfl, e⟩ := listOf_some h1
    simp [hasForm, formAt, forms]
    omega
  case h_13 =>
    obtain ⟨l, h1, _⟩ := map_some_of h
    obtain ⟨n, rfl, e⟩ := listOf_some h1
    simp [hasForm, formAt, forms]
    omega
  all_goals first
    | (cases h; done)
    | (simp [hasForm, formAt, forms]; done)
theorem decode_none {ns : List Int} (h : hasForm ns = false) : decode ns = none := by
  cases e : decode ns with
  | none => rfl
  | some c =>
    rw [hasForm_of_decode e] at h
    cases h
theorem hasForm_place {p : Int} {r : List Int} (h : hasForm (p :: r) = true) : 0 ≤ p ∧ p < 17 := by
  unfold hasForm at h
  rw [Bool.and_eq_true, decide_eq_true_eq] at h
  exact h.1
theorem hasForm_plain {p : Int} {r : List Int} {n : Nat} (h : hasForm (p :: r) = true) (hf : formAt p = (n, 0)) : r.length = n := by
  simp only [hasForm, hf, Bool.and_eq_true] at h
  simpa using h.2
theorem hasForm_list {p : Int} {r : List Int} {n k : Nat} (h : hasForm (p :: r) = true) (hf : formAt p = (n, k)) (hk : 0 < k) : n < r.length ∧ r.getD n 0 * (k : Int) = (r.length : Int) - (n : Int) - 1 := by
  simp only [hasForm, hf] at h
  rw [Bool.and_eq_true] at h
  have h2 := h.2
  rw [if_neg (show ¬ k = 0 by omega), Bool.and_eq_true, decide_eq_true_eq, decide_eq_true_eq] at h2
  exact h2
end Tw
set_option linter.all false
namespace Tw
open Vbdlac
section
variable {s : St} {k : Int} {g : Bool} {f : Sensor → Sensor × List Int} {ss : List Sensor} {i : Nat} {x : Sensor}
theorem on_none (h : sensorAt s k = none) : on s k g f = (s, [-1]) := by
  unfold on
  rw [h]
theorem on_bad (h : g = false) : on s k g f = (s, [-1]) := by
  unfold on
  cases sensorAt s k with
  | none => rfl
  | some x => exact if_pos h
theorem sensorAt_some (h : ss[i]? = some x) : sensorAt ⟨ss⟩ (i : Int) = some x := by
  unfold sensorAt
  rw [if_pos (by omega), Int.toNat_natCast]
  exact h
theorem set_same (h : ss[i]? = some x) : ss.set i x = ss := by
  apply List.ext_getElem?
  intro j
  by_cases hj : i = j
  · subst hj
    rw [List.getElem?_set_self (List.getElem?_eq_some_iff.mp h).1, h]
  · rw [List.getElem?_set_ne hj]
theorem on_some (h : ss[i]? = some x) (hg : g = true) : on ⟨ss⟩ (i : Int) g f = (⟨ss.set i (f x).1⟩, (f x).2) := by
  unfold on
  rw [sensorAt_some h, hg]
  show (if true = false then _ else if (f x).1 = x then _ else _) = _
  rw [if_neg (by decide)]
  by_cases e : (f x).1 = x
  · rw [if_pos e, e, set_same h]
  · rw [if_neg e]
    rfl
theorem on_ok (h : StOk ss) (hf : ∀ x, SeOk x → g = true → SeOk (f x).1) : StOk (on ⟨ss⟩ k g f).1.sensors := by
  unfold on
  cases e : sensorAt ⟨ss⟩ k with
  | none => exact h
  | some x =>
    have hx : x ∈ ss := by
      unfold sensorAt at e
      split at e
      · exact List.mem_of_getElem? e
      · cases e
    show StOk (if g = false then _ else if (f x).1 = x then _ else _ : St × List Int).1.sensors
    by_cases hg : g = false
    · rw [if_pos hg]
      exact h
    · rw [if_neg hg]
      by_cases e1 : (f x).1 = x
      · rw [if_pos e1]
        exact h
      · rw [if_neg e1]
        refine ⟨by show (ss.set _ _).length ≤ 16; rw [List.length_set]; exact h.1, fun y hy => ?_⟩
        rcases List.mem_or_eq_of_mem_set hy with q | q
        · exact h.2 y q
        · rw [q]
          exact hf x (h.2 x hx) (by simpa using hg)
end
theorem within_mk {n lo hi : Int} (h : within n lo hi = true) : lo ≤ n ∧ n ≤ hi := by
  unfold within at h
  rw [Bool.and_eq_true, decide_eq_true_eq, decide_eq_true_eq] at h
  exact h
theorem count_mk {n : Int} (h : isCount n = true) : Cnt n := within_mk h
theorem value_mk {n : Int} (h : isValue n = true) : -1000000000 ≤ n ∧ n ≤ 1000000000 := within_mk h
theorem pairs_all {g : Int → Bool} : ∀ {l : List Int}, l.all g = true → ∀ p ∈ pairsOf l, g p.1 = true ∧ g p.2 = true
  | [], _, p, hp => by cases hp
  | [_], _, p, hp => by cases hp
  | a :: b :: l, h, p, hp => by
    rw [List.all_cons, List.all_cons, Bool.and_eq_true, Bool.and_eq_true] at h
    rcases List.mem_cons.mp hp with rfl | hp
    · exact ⟨h.1, h.2.1⟩
    · exact pairs_all h.2.2 p hp
theorem put_channel (x : Sensor) (c : Int) : putChannel x c (channel x c) = x := by
  unfold putChannel channel
  split <;> rfl
theorem correct_eq (x : Sensor) (c c1 v1 c2 v2 : Int) :
    (let ch := channel x c
     let x1 := exact x.form ch c1
     let x2 := exact x.form ch c2
     if lessQ x1 x2 = false then (x, [-4])
     else if v2 ≤ v1 then (x, [-5])
     else
       let y := corrected ch x1 x2 v1 v2
       if tame x.form y = false then (x, [-6]) else (putChannel x c y, [1])) = (putChannel x c (corr x.form (channel x c) c1 v1 c2 v2).1, [(corr x.form (channel x c) c1 v1 c2 v2).2]) := by
  unfold corr
  dsimp only
  by_cases h1 : lessQ (exact x.form (channel x c) c1) (exact x.form (channel x c) c2) = false
  · rw [if_pos h1, if_pos h1, put_channel]
  · rw [if_neg h1, if_neg h1]
    by_cases h2 : v2 ≤ v1
    · rw [if_pos h2, if_pos h2, put_channel]
    · rw [if_neg h2, if_neg h2]
      by_cases h3 : tame x.form (corrected (channel x c) (exact x.form (channel x c) c1) (exact x.form (channel x c) c2) v1 v2) = false
      · rw [if_pos h3, if_pos h3, put_channel]
      · rw [if_neg h3, if_neg h3]
theorem channel_ok {x : Sensor} (h : SeOk x) (c : Int) : ChOk (channel x c) := by
  unfold channel
  split
  · exact h.a
  · exact h.b
theorem put_ok {x : Sensor} {c : Int} {ch : Channel} (h : SeOk x) (hc : ChOk ch) : SeOk (putChannel x c ch) := by
  unfold putChannel
  split
  · exact ⟨h.f, hc, h.b⟩
  · exact ⟨h.f, h.a, hc⟩
theorem tbl_ok {l : Table} (h1 : rising l = true) (h2 : 2 ≤ l.length) (h3 : l.length ≤ 8) (h4 : (l.all fun p => isCount p.1 && isValue p.2) = true) : TblOk l := by
  rw [List.all_eq_true] at h4
  refine ⟨h1, h2, h3, fun p hp => ?_, fun p hp => ?_⟩
  · have q := h4 p hp
    rw [Bool.and_eq_true] at q
    exact count_mk q.1
  · have q := h4 p hp
    rw [Bool.and_eq_true] at q
    exact value_mk q.2
theorem step_ok {ss : List Sensor} (h : StOk ss) (c : Call) : StOk (step ⟨ss⟩ c).1.sensors := by
  cases c with
  | sensor w t m z d lo hi l =>
    unfold step
    dsimp only
    split
    · exact h
    · rename_i n1
      split
      · exact h
      · rename_i n2
        split
        · exact h
        · rename_i n3
          have ok := (Bool.not_eq_false _).mp n1
          simp only [Bool.and_eq_true, Bool.or_eq_true, beq_iff_eq, decide_eq_true_eq] at ok
          obtain ⟨hw, -, -, -, -, -, -, h2, h8, hall⟩ := ok
          have hr : rising (pairsOf l) = true := by simpa using n3
          have n2 : ¬ 16 ≤ ss.length := n2
          refine ⟨?_, fun y hy => ?_⟩
          · show (ss ++ [_]).length ≤ 16
            rw [List.length_append]
            show ss.length + 1 ≤ 16
            omega
          · rcases List.mem_append.mp hy with q | q
            · exact h.2 y q
            · have e := List.mem_singleton.mp q
              subst e
              refine ⟨⟨?_, tbl_ok hr h2 h8 hall⟩, new_ok, new_ok⟩
              show w.toNat ≤ 5
              omega
  | limits s a b c => exact on_ok h fun x hx _ => ⟨hx.f, hx.a, hx.b⟩
  | feed s m n =>
    refine on_ok h fun x hx hg => ?_
    rw [Bool.and_eq_true] at hg
    exact sample_ok hx (count_mk hg.1) (count_mk hg.2)
  | feeds s l =>
    refine on_ok h fun x hx hg => ?_
    rw [Bool.and_eq_true] at hg
    exact samples_ok hx fun p hp => ⟨count_mk (pairs_all hg.2 p hp).1, count_mk (pairs_all hg.2 p hp).2⟩
  | reading s => exact on_ok h fun x hx _ => hx
  | exact s c n => exact on_ok h fun x hx _ => hx
  | value s c n => exact on_ok h fun x hx _ => hx
  | correct s c c1 v1 c2 v2 =>
    refine on_ok h fun x hx hg => ?_
    simp only [Bool.and_eq_true] at hg
    rw [correct_eq]
    exact put_ok hx (corr_ok hx.f (channel_ok hx c) (count_mk hg.2.1) (count_mk hg.2.2.2.1))
  | drift s c => exact on_ok h fun x hx _ => hx
  | reference s v => exact on_ok h fun x hx _ => ⟨hx.f, judged_ok hx.a, judged_ok hx.b⟩
  | least s c n m v => exact on_ok h fun x hx _ => hx
  | middle l =>
    unfold step
    dsimp only
    split <;> exact h
  | line l =>
    unfold step
    dsimp only
    split
    · exact h
    · split <;> exact h
  | state s => exact on_ok h fun x hx _ => hx
  | clear s => exact on_ok h fun x hx _ => ⟨hx.f, clear_ok hx.a, clear_ok hx.b⟩
  | count => exact h
  | gap s => exact on_ok h fun x hx _ => hx
theorem stepRaw_ok {ss : List Sensor} (h : StOk ss) (ns : List Int) : StOk (stepRaw ⟨ss⟩ ns).1.sensors := by
  unfold stepRaw
  split
  · exact h
  · exact step_ok h _
def PtOk (l : List (Int × Int)) : Prop := ∀ p ∈ l, Cnt p.1 ∧ -1000000000 ≤ p.2 ∧ p.2 ≤ 1000000000
theorem pts_ok {l : Table} (h : (l.all fun p => isCount p.1 && isValue p.2) = true) : PtOk l := fun p hp => by
  rw [List.all_eq_true] at h
  have q := h p hp
  rw [Bool.and_eq_true] at q
  exact ⟨count_mk q.1, value_mk q.2⟩
theorem sum_bound {F : Int × Int → Int} {B : Int} : ∀ {l : List (Int × Int)}, (∀ p ∈ l, -B ≤ F p ∧ F p ≤ B) → -((l.length : Int) * B) ≤ (l.map F).sum ∧ (l.map F).sum ≤ (l.length : Int) * B
  | [], _ => by simp
  | p :: l, h => by
    obtain ⟨i1, i2⟩ := sum_bound (l := l) fun q hq => h q (List.mem_cons_of_mem _ hq)
    obtain ⟨j1, j2⟩ := h p (List.mem_cons_self ..)
    rw [List.map_cons, List.sum_cons, List.length_cons, show (((l.length + 1 : Nat)) : Int) = (l.length : Int) + 1 by omega, Int.add_mul, Int.one_mul]
    constructor <;> omega
theorem sum_small {F : Int × Int → Int} {B : Int} {l : List (Int × Int)} (hl : l.length ≤ 16) (hB : 0 ≤ B) (h : ∀ p ∈ l, -B ≤ F p ∧ F p ≤ B) : -(16 * B) ≤ (l.map F).sum ∧ (l.map F).sum ≤ 16 * B := by
  obtain ⟨h1, h2⟩ := sum_bound h
  have h3 : (l.length : Int) * B ≤ 16 * B := Int.mul_le_mul_of_nonneg_right (by omega) hB
  omega
structure Sums (l : List (Int × Int)) : Prop where
  c : (l.map fun (p : Int × Int) => p.1).sum.natAbs < 2 ^ 20
  v : (l.map fun (p : Int × Int) => p.2).sum.natAbs < 2 ^ 34
  cc : (l.map fun (p : Int × Int) => p.1 * p.1).sum.natAbs < 2 ^ 36
  cv : (l.map fun (p : Int × Int) => p.1 * p.2).sum.natAbs < 2 ^ 50
theorem PtOk.sums {l : List (Int × Int)} (h : PtOk l) (hl : l.length ≤ 16) : Sums l := by
  refine ⟨?_, ?_, ?_, ?_⟩
  · have := sum_small (F := fun p => p.1) (B := 65535) hl (by decide) fun p hp => by
      obtain ⟨⟨h1, h2⟩, h3⟩ := h p hp
      constructor <;> show _ <;> omega
    omega
  · have := sum_small (F := fun p => p.2) (B := 1000000000) hl (by decide) fun p hp => by
      obtain ⟨⟨h1, h2⟩, h3⟩ := h p hp
      constructor <;> show _ <;> omega
    omega
  · have := sum_small (F := fun p => p.1 * p.1) (B := 65535 * 65535) hl (by decide) fun p hp => by
      obtain ⟨⟨h1, h2⟩, h3⟩ := h p hp
      have e1 : 0 ≤ p.1 * p.1 := Int.mul_nonneg h1 h1
      have e2 : p.1 * p.1 ≤ 65535 * 65535 := Int.mul_le_mul h2 h2 h1 (by decide)
      constructor <;> show _ <;> omega
    omega
  · have := sum_small (F := fun p => p.1 * p.2) (B := 65535 * 1000000000) hl (by decide) fun p hp => by
      obtain ⟨⟨h1, h2⟩, h3, h4⟩ := h p hp
      have e1 : p.1 * p.2 ≤ p.1 * 1000000000 := Int.mul_le_mul_of_nonneg_left h4 h1
      have e2 : p.1 * (-1000000000) ≤ p.1 * p.2 := Int.mul_le_mul_of_nonneg_left h3 h1
      constructor <;> show _ <;> omega
    omega
theorem nearest_eq (l : Table) : nearestLine l = if ((l.length : Int) * (l.map fun (p : Int × Int) => p.1 * p.1).sum - (l.map fun (p : Int × Int) => p.1).sum * (l.map fun (p : Int × Int) => p.1).sum) ≤ 0 then none else
    some (q ((l.length : Int) * (l.map fun (p : Int × Int) => p.1 * p.2).sum - (l.map fun (p : Int × Int) => p.1).sum * (l.map fun (p : Int × Int) => p.2).sum) ((l.length : Int) * (l.map fun (p : Int × Int) => p.1 * p.1).sum - (l.map fun (p : Int × Int) => p.1).sum * (l.map fun (p : Int × Int) => p.1).sum).toNat,
      divQ (subQ (whole (l.map fun (p : Int × Int) => p.2).sum) (mulQ (q ((l.length : Int) * (l.map fun (p : Int × Int) => p.1 * p.2).sum - (l.map fun (p : Int × Int) => p.1).sum * (l.map fun (p : Int × Int) => p.2).sum) ((l.length : Int) * (l.map fun (p : Int × Int) => p.1 * p.1).sum - (l.map fun (p : Int × Int) => p.1).sum * (l.map fun (p : Int × Int) => p.1).sum).toNat) (whole (l.map fun (p : Int × Int) => p.1).sum))) (whole (l.length : Int))) := by
  unfold nearestLine
  simp only [sum_eq]
structure LineB (l : List (Int × Int)) : Prop where
  kb : ((l.length : Int)).natAbs < 2 ^ 5
  d : ((l.length : Int) * (l.map fun (p : Int × Int) => p.1 * p.1).sum - (l.map fun (p : Int × Int) => p.1).sum * (l.map fun (p : Int × Int) => p.1).sum).natAbs < 2 ^ 60
  n : ((l.length : Int) * (l.map fun (p : Int × Int) => p.1 * p.2).sum - (l.map fun (p : Int × Int) => p.1).sum * (l.map fun (p : Int × Int) => p.2).sum).natAbs < 2 ^ 60
theorem sub_abs {x y : Int} {n : Nat} (hx : x.natAbs < 2 ^ n) (hy : y.natAbs < 2 ^ n) : (x - y).natAbs < 2 ^ (n + 1) := by
  have e := add_abs (x := x) (y := -y) hx (by rw [Int.natAbs_neg]; exact hy)
  rw [← Int.sub_eq_add_neg] at e
  exact e
theorem Sums.line {l : List (Int × Int)} (h : Sums l) (hl : l.length ≤ 16) : LineB l := by
  have kb : ((l.length : Int)).natAbs < 2 ^ 5 := by omega
  refine ⟨kb, ?_, ?_⟩
  · exact Nat.lt_of_lt_of_le (sub_abs (n := 41) (mul_abs kb h.cc) (Nat.lt_of_lt_of_le (mul_abs h.c h.c) (pow_le (n := 41) (by decide)))) (pow_le (by decide))
  · exact Nat.lt_of_lt_of_le (sub_abs (n := 55) (mul_abs kb h.cv) (Nat.lt_of_lt_of_le (mul_abs h.c h.v) (pow_le (n := 55) (by decide)))) (pow_le (by decide))
theorem line_bound {l : List (Int × Int)} {s o : Q} (h : PtOk l) (h2 : 2 ≤ l.length) (hl : l.length ≤ 16) (e : nearestLine l = some (s, o)) : QB 60 s ∧ QB 200 o := by
  have S := h.sums hl
  have B := S.line hl
  rw [nearest_eq] at e
  by_cases hd : ((l.length : Int) * (l.map fun (p : Int × Int) => p.1 * p.1).sum - (l.map fun (p : Int × Int) => p.1).sum * (l.map fun (p : Int × Int) => p.1).sum) ≤ 0
  · rw [if_pos hd] at e
    cases e
  · rw [if_neg hd] at e
    have e := Option.some.inj e
    have e1 := congrArg Prod.fst e
    have e2 := congrArg Prod.snd e
    dsimp only at e1 e2
    have bs : QB 60 s := by
      rw [← e1]
      have := B.d
      exact q_bound (by omega) B.n (by omega)
    refine ⟨bs, ?_⟩
    rw [← e2, e1]
    have bv : QB 34 (whole (l.map fun (p : Int × Int) => p.2).sum) := QB.whole S.v (by decide)
    have bc : QB 20 (whole (l.map fun (p : Int × Int) => p.1).sum) := QB.whole S.c (by decide)
    have bk : QB 5 (whole (l.length : Int)) := QB.whole B.kb (by decide)
    exact ((bv.sub (bs.mul bc)).div bk (by show (0 : Int) < (l.length : Int); omega)).mono (by decide)
end Tw
set_option linter.all false
namespace Tw
open Vbdlac
inductive Parsed : List Int → List (List Int) → Prop
  | nil : Parsed [] []
  | cons {row rest : List Int} {rs : List (List Int)} : Parsed rest rs → Parsed (0 :: (row.length : Int) :: (row ++ rest)) (row :: rs)
theorem row_some {l x t : List Int} (h : PyFlat.row l = some (x, t)) : l = (x.length : Int) :: (x ++ t) := by
  cases l with
  | nil => cases h
  | cons n r =>
    have h : (if 0 ≤ n ∧ n.toNat ≤ r.length then some (r.take n.toNat, r.drop n.toNat) else none) = some (x, t) := h
    by_cases c : 0 ≤ n ∧ n.toNat ≤ r.length
    · rw [if_pos c] at h
      cases h
      rw [List.take_append_drop, List.length_take, Nat.min_eq_left c.2]
      rw [Int.toNat_of_nonneg c.1]
    · rw [if_neg c] at h
      cases h
theorem call_some {l : List Int} {c : List (List Int)} {t : List Int} (h : PyFlat.call PyVbdlac.shape l = some (c, t)) : ∃ row, l = 0 :: (row.length : Int) :: (row ++ t) ∧ c = [[0], row] := by
  cases l with
  | nil => cases h
  | cons p r =>
    unfold PyFlat.call PyVbdlac.shape at h
    by_cases hp : p = 0
    · subst hp
      simp only [if_true, Nat.not_lt_zero, if_false, List.drop_zero, List.take_zero] at h
      unfold PyFlat.rows at h
      cases e : PyFlat.row r with
      | none => rw [e] at h; cases h
      | some z =>
        obtain ⟨x, s⟩ := z
        rw [e] at h
        simp only [PyFlat.rows] at h
        cases h
        exact ⟨x, by rw [row_some e], rfl⟩
    · simp [hp] at h
theorem parsed_of : ∀ (f : Nat) (l : List Int) (cs : List (List (List Int))), PyFlat.calls PyVbdlac.shape f l = some cs → ∃ rs, Parsed l rs ∧ cs.map PyVbdlac.whole = rs.map fun r => [r]
  | f, [], cs, h => by
    unfold PyFlat.calls at h
    cases h
    exact ⟨[], .nil, rfl⟩
  | 0, _ :: _, cs, h => by
    unfold PyFlat.calls at h
    cases h
  | f + 1, p :: r, cs, h => by
    unfold PyFlat.calls at h
    cases e : PyFlat.call PyVbdlac.shape (p :: r) with
    | none => rw [e] at h; cases h
    | some z =>
      obtain ⟨c, t⟩ := z
      rw [e] at h
      dsimp only at h
      cases e2 : PyFlat.calls PyVbdlac.shape f t with
      | none => rw [e2] at h; cases h
      | some cs' =>
        rw [e2] at h
        cases h
        obtain ⟨row, h1, h2⟩ := call_some e
        obtain ⟨rs, h3, h4⟩ := parsed_of f t cs' e2
        refine ⟨row :: rs, by rw [h1]; exact .cons h3, ?_⟩
        rw [List.map_cons, List.map_cons, h4, h2]
        rfl
def runR : St → List (List Int) → List Int
  | _, [] => []
  | s, r :: rs => ((stepRaw s r).2.length : Int) :: ((stepRaw s r).2 ++ runR (stepRaw s r).1 rs)
theorem raw_one (r : List Int) : VbdlacNeutral.raw [r] = r := by
  unfold VbdlacNeutral.raw
  split <;> simp_all
theorem played_eq : ∀ (rs : List (List Int)) (s : St), PyFlat.told (PyFlat.played VbdlacNeutral.step s (rs.map fun r => [r])) = runR s rs
  | [], s => rfl
  | r :: rs, s => by
    have ih := played_eq rs (stepRaw s r).1
    have e : VbdlacNeutral.step s [r] = stepRaw s r := by
      unfold VbdlacNeutral.step
      rw [raw_one]
    show PyFlat.told ((VbdlacNeutral.step s [r]).2 :: PyFlat.played VbdlacNeutral.step (VbdlacNeutral.step s [r]).1 (rs.map fun r => [r])) = _
    rw [e]
    show ((stepRaw s r).2.length : Int) :: ((stepRaw s r).2 ++ PyFlat.told (PyFlat.played VbdlacNeutral.step (stepRaw s r).1 (rs.map fun r => [r]))) = _
    rw [ih]
    rfl
theorem asked_runs {l : List Int} (h : PyVbdlac.answers_asked l = true) : ∃ rs, Parsed l rs ∧ rs.length ≤ 400 ∧ PyVbdlac.answers l = runR ⟨[]⟩ rs := by
  unfold PyVbdlac.answers_asked at h
  unfold PyVbdlac.answers
  cases e : PyVbdlac.calls l with
  | none => rw [e] at h; cases h
  | some cs =>
    rw [e] at h
    dsimp only at h
    unfold PyVbdlac.calls at e
    cases e2 : PyFlat.calls PyVbdlac.shape l.length l with
    | none => rw [e2] at e; cases e
    | some cs0 =>
      rw [e2] at e
      dsimp only at e
      cases e
      obtain ⟨rs, h1, h2⟩ := parsed_of _ _ _ e2
      rw [Bool.and_eq_true] at h
      have h3 := h.1
      unfold PyFlat.atMost at h3
      rw [decide_eq_true_eq, h2, List.length_map] at h3
      refine ⟨rs, h1, h3, ?_⟩
      dsimp only
      rw [h2]
      exact played_eq rs ⟨[]⟩
theorem Parsed.inv {l : List Int} {rs : List (List Int)} (h : Parsed l rs) : (l = [] ∧ rs = []) ∨ ∃ row rest rs', l = 0 :: (row.length : Int) :: (row ++ rest) ∧ rs = row :: rs' ∧ Parsed rest rs' := by
  cases h with
  | nil => exact .inl ⟨rfl, rfl⟩
  | cons h => exact .inr ⟨_, _, _, rfl, rfl, h⟩
end Tw
set_option Elab.async false
set_option linter.all false
set_option maxRecDepth 100000
namespace L3
open PySem PySem.Spec PyProof.Rows L2
section
variable {X : Cx}
theorem opW {f : Value → Value → Sem Value} {r r' : R2} (h : OpR X f r) (w : ∀ x y H Q, r' x y H Q → r x y H Q) : OpR X f r' := fun pins s σ H x y v u Q I rx ry q => h pins s σ H x y v u Q I rx ry (w _ _ _ _ q)
theorem callW {f : Value} {r r' : List V → Hp → VK → Prop} (h : CallR X f r) (w : ∀ xs H Q, r' xs H Q → r xs H Q) : CallR X f r' := fun pins s σ H xs us Q I rx q => h pins s σ H xs us Q I rx (w _ _ _ q)
theorem ixW {r r' : R2} (h : IxR X r) (w : ∀ x y H Q, r' x y H Q → r x y H Q) : IxR X r' := fun value slice pins s σ H x y v u Q I rx ry q hs => h value slice pins s σ H x y v u Q I rx ry (w _ _ _ _ q) hs
theorem slW {r r' : V → Option Int → Option Int → Hp → VK → Prop} (h : SlR X r) (w : ∀ x lo hi H Q, r' x lo hi H Q → r x lo hi H Q) : SlR X r' := fun pins s σ H x v vl vu lo hi sl Q I rx hs pl pu q => h pins s σ H x v vl vu lo hi sl Q I rx hs pl pu (w _ _ _ _ _ q)
theorem peEq {e : Expr} {t t' : TE} (h : PE X e t) (w : t' = t) : PE X e t' := by rw [w]; exact h
end
structure New (H : Hp) (p : Addr) (o : HO) (H' : Hp) : Prop where
  fresh : H p = none
  at_ : H' p = some o
  same : Same H H'
theorem New.of {H : Hp} {p : Addr} {o : HO} (h : H p = none) : New H p o (upd H p o) := ⟨h, upd_same, fun b u e => by rw [upd_ne (ne_of_none e h)]; exact e⟩
def Fr (l : List Addr) (H H' : Hp) : Prop := ∀ b o, b ∉ l → H b = some o → H' b = some o
theorem Fr.refl (l : List Addr) (H : Hp) : Fr l H H := fun _ _ _ h => h
theorem Fr.trans {l : List Addr} {H H1 H2 : Hp} (a : Fr l H H1) (b : Fr l H1 H2) : Fr l H H2 := fun c o n h => b c o n (a c o n h)
theorem Fr.of {l : List Addr} {H H' : Hp} (a : Same H H') : Fr l H H' := fun c o _ h => a c o h
theorem Fr.upd {l : List Addr} {H : Hp} {a : Addr} {o : HO} (h : a ∈ l) : Fr l H (L2.upd H a o) := fun c u n e => by
  rw [upd_ne (fun z => n (by rw [z]; exact h))]
  exact e
theorem Fr.mono {l m : List Addr} {H H' : Hp} (a : Fr l H H') (h : ∀ x ∈ l, x ∈ m) : Fr m H H' := fun c o n e => a c o (fun z => n (h c z)) e
theorem Fr.same {H H' : Hp} (a : Fr [] H H') : Same H H' := fun c o h => a c o (by simp) h
structure Wr (H : Hp) (a : Addr) (o : HO) (H' : Hp) : Prop where
  at_ : H' a = some o
  fr : Fr [a] H H'
theorem Wr.of (H : Hp) (a : Addr) (o : HO) : Wr H a o (L2.upd H a o) := ⟨upd_same, Fr.upd (by simp)⟩
theorem Wr.free {H H' : Hp} {a b : Addr} {o : HO} (w : Wr H a o H') (h : H' b = none) : H b = none := by
  cases q : H b with
  | none => rfl
  | some u =>
    have n : b ≠ a := fun e => by
      subst e
      rw [w.at_] at h
      cases h
    rw [w.fr b u (by simpa using n) q] at h
    cases h
def kind : HO → Nat
  | .ins _ _ fs => fs.length + 100
  | _ => 0
theorem ne_kind {H : Hp} {a b : Addr} {o u : HO} (h : H a = some o) (h' : H b = some u) (d : kind o ≠ kind u) : a ≠ b := by
  intro e
  subst e
  rw [h] at h'
  exact d (congrArg kind (Option.some.inj h'))
def MutL (H : Hp) (l : List Addr) : Prop := ∀ z ∈ l, ∀ o, H z = some o → kind o ≠ 0 ∧ kind o ≠ 108
theorem Fr.keep {l : List Addr} {H H' : Hp} {a : Addr} {o : HO} (f : Fr l H H') (m : MutL H l) (h : H a = some o) (k : kind o = 0 ∨ kind o = 108) : H' a = some o :=
  f a o (fun z => by rcases k with k | k; exact (m a z o h).1 k; exact (m a z o h).2 k) h
def GC (mg : Str → Option Value) (x : Str) (v : V) : Prop := ∃ u, mg x = some u ∧ RelV v u
def FldR (K : PySem.W.Frag) (H : Hp) (x : V) (f : Str) (v : V) : Prop := ∃ a C dx fs, x = .ref a ∧ H a = some (.ins C dx fs) ∧ Cls K C ∧ NoAttr K C f ∧ fs.lookup f = some v
def PutR (K : PySem.W.Frag) (H : Hp) (x : V) (f : Str) (y : V) (a C dx : Addr) (fs' : List (Str × V)) : Prop := ∃ fs, x = .ref a ∧ H a = some (.ins C dx fs) ∧ Cls K C ∧ NoAttr K C f ∧ fs.length < 1000 ∧ putF f y fs = fs'
def IxL (K : PySem.W.Frag) (H : Hp) (x y v : V) : Prop := ∃ p xs i, x = .ref p ∧ y = .int i ∧ SqL K H p xs ∧ atI xs i = some v
def IxT (K : PySem.W.Frag) (H : Hp) (x y v : V) : Prop := ∃ p xs i, x = .ref p ∧ y = .int i ∧ SqT K H p xs ∧ atI xs i = some v
def InsNo (H : Hp) (x : V) (C : Addr) (m : Str) : Prop := ∃ a dx fs, x = .ref a ∧ H a = some (.ins C dx fs) ∧ fs.lookup m = none
def LenF (K : PySem.W.Frag) (H : Hp) (vs : List V) (n : Nat) : Prop := ∃ p ys, vs = [.ref p] ∧ (SqL K H p ys ∨ SqT K H p ys) ∧ ys.length = n
def LstF (K : PySem.W.Frag) (H : Hp) (x : V) (xs : List V) : Prop := ∃ a, x = .ref a ∧ SqL K H a xs
theorem IxL.mk {K : PySem.W.Frag} {H : Hp} {p : Addr} {xs : List V} {j : Nat} {v : V} (h : H p = some (.lst xs)) (e : xs[j]? = some v) : IxL K H (.ref p) (.int (j : Int)) v := ⟨p, xs, j, rfl, rfl, SqL.of h, atI_nat e⟩
theorem IxT.mk {K : PySem.W.Frag} {H : Hp} {p : Addr} {xs : List V} {j : Nat} {v : V} (h : H p = some (.tup xs)) (e : xs[j]? = some v) : IxT K H (.ref p) (.int (j : Int)) v := ⟨p, xs, j, rfl, rfl, SqT.of h, atI_nat e⟩
theorem LenF.l {K : PySem.W.Frag} {H : Hp} {p : Addr} {xs : List V} (h : H p = some (.lst xs)) : LenF K H [.ref p] xs.length := ⟨p, xs, rfl, .inl (SqL.of h), rfl⟩
theorem LenF.t {K : PySem.W.Frag} {H : Hp} {p : Addr} {xs : List V} (h : H p = some (.tup xs)) : LenF K H [.ref p] xs.length := ⟨p, xs, rfl, .inr (SqT.of h), rfl⟩
theorem LstF.mk {K : PySem.W.Frag} {H : Hp} {p : Addr} {xs : List V} (h : H p = some (.lst xs)) : LstF K H (.ref p) xs := ⟨p, rfl, SqL.of h⟩
section
variable {X : Cx} {a b c d e o : Expr} {es : List Expr} {ta tb tc td te : TE} {t : TA} {x m f : Str} {p pos apos pos' : Pos} {sp : Sp} {k : Nat} {ps : List Str} {C : Addr}
theorem x_gc {v : V} (hg : Gl X x) (h : GC X.mg x v) (hd : (x == ("__debug__" : Str)) = false := by decide) : PE X (.Name x pos) (tC v) := by
  obtain ⟨u, h1, h2⟩ := h
  exact pe_glob hg h1 h2 hd
def xTup (t : TA) : TE := fun σ H Q => t σ H fun xs H1 => xs.length ≤ sizeLine ∧ ∀ p H2, New H1 p (.tup xs) H2 → Q (.ref p) H2
def xLst (t : TA) : TE := fun σ H Q => t σ H fun xs H1 => xs.length ≤ sizeLine ∧ ∀ p H2, New H1 p (.lst xs) H2 → Q (.ref p) H2
theorem x_tup {x1} (h : PA X es t) : PE X (.Tuple es x1 pos) (xTup t) := by
  intro pins s σ H Q I hq
  refine wpAny_Tuple_spliced (thn (h pos pins s σ H _ I hq) fun us s1 ⟨xs, H1, I1, r, z, q⟩ => ⟨by rw [← r.length]; exact z, ?_⟩)
  have hf : H1 s1.heap.objs.size = none := I1.hok.fresh (Nat.le_refl _)
  refine ⟨.ref s1.heap.objs.size, L2.upd H1 s1.heap.objs.size (.tup xs), I1.laid (t' := s1.toks) (fun b u e => Heap.get?_push_of_some _ e) (Nat.le_refl _) ?_, rfl, q _ _ (New.of hf)⟩
  exact ⟨z, us, r, ⟨_, Heap.get?_push_size _ rfl, rfl, _, rfl⟩⟩
theorem x_lst (h : PA X es t) : PE X (.List es pos) (xLst t) := by
  intro pins s σ H Q I hq
  refine wpAny_List_spliced (thn (h pos pins s σ H _ I hq) fun us s1 ⟨xs, H1, I1, r, z, q⟩ => ⟨by rw [← r.length]; exact z, ?_⟩)
  have hf : H1 s1.heap.objs.size = none := I1.hok.fresh (Nat.le_refl _)
  refine ⟨.ref s1.heap.objs.size, L2.upd H1 s1.heap.objs.size (.lst xs), I1.laid (t' := s1.toks) (fun b u e => Heap.get?_push_of_some _ e) (Nat.le_refl _) ?_, rfl, q _ _ (New.of hf)⟩
  exact ⟨z, us, 0, r, Heap.get?_push_size _ rfl⟩
def xFld (K : PySem.W.Frag) (ta : TE) (f : Str) : TE := fun σ H Q => ta σ H fun x H1 => ∃ v, FldR K H1 x f v ∧ Q v H1
theorem x_fld (he : PE X e ta) (hb : attributeBase e f X.env (eval e X.env) = eval e X.env := by rfl) : PE X (.Attribute e f pos) (xFld X.K ta f) := by
  refine peEq (pe_fld he hb) ?_
  funext σ H Q
  unfold xFld tFld
  congr 1
  funext x H1
  refine propext ⟨fun ⟨v, ⟨a, C, dx, fs, h1, h2, h3, h4, h5⟩, q⟩ => ⟨a, C, dx, fs, v, h1, h2, h3, h4, h5, q⟩, fun ⟨a, C, dx, fs, v, h1, h2, h3, h4, h5, q⟩ => ⟨v, ⟨a, C, dx, fs, h1, h2, h3, h4, h5⟩, q⟩⟩
def xPut (K : PySem.W.Frag) (ta tv : TE) (f : Str) : TS := fun D σ H => tv σ H fun y H1 => ta σ H1 fun x H2 => ∃ a C dx fs', PutR K H2 x f y a C dx fs' ∧ ∀ H3, Wr H2 a (.ins C dx fs') H3 → D.nx σ H3
theorem x_put {value : Expr} {tv : TE} (ha : PE X o ta) (hv : PE X value tv) (hs : swapsWith value (some (.Attribute o f pos')) pos.line X.env = pure false := by rfl) : PS X (.Assign [.Attribute o f pos'] value pos) (xPut X.K ta tv f) := by
  intro pins s σ H D I h
  refine plainObj_wpAny_Assign_Attribute (thn (hv pins s σ H _ I h) fun u s1 ⟨y, H1, I1, ry, q⟩ => thn (ha pins s1 σ H1 _ I1 q) fun ov s2 ⟨x, H2, I2, rx, a, C, dx, fs', ⟨fs, ex, ea, c, n, l, ep⟩, q2⟩ => ?_) hs
  subst ex
  subst ep
  obtain rfl : ov = Value.ref a := rx
  exact setattr_ok I2 ea c n l ry fun s3 I3 => ⟨σ, _, I3, q2 _ (Wr.of ..)⟩
def rIL (K : PySem.W.Frag) : R2 := fun x y H Q => ∃ v, IxL K H x y v ∧ Q v H
def rIT (K : PySem.W.Frag) : R2 := fun x y H Q => ∃ v, IxT K H x y v ∧ Q v H
theorem x_ixl (ha : PE X a ta) (hb : PE X b tb) (hs : PlainIx b := by intro _ _; rfl) : PE X (.Subscript a b pos) (tOp (rIL X.K) ta tb) :=
  pe_ix (ixW ix_list fun x y H Q ⟨v, ⟨p, xs, i, h1, h2, h3, h4⟩, q⟩ => ⟨p, xs, i, v, h1, h2, h3, h4, q⟩) ha hb hs
theorem x_ixt (ha : PE X a ta) (hb : PE X b tb) (hs : PlainIx b := by intro _ _; rfl) : PE X (.Subscript a b pos) (tOp (rIT X.K) ta tb) :=
  pe_ix (ixW ix_tup fun x y H Q ⟨v, ⟨p, xs, i, h1, h2, h3, h4⟩, q⟩ => ⟨p, xs, i, v, h1, h2, h3, h4, q⟩) ha hb hs
def rSl (K : PySem.W.Frag) : V → Option Int → Option Int → Hp → VK → Prop := fun x lo hi H Q => ∃ xs, LstF K H x xs ∧ ∀ p H2, New H p (.lst (cutV xs lo hi)) H2 → Q (.ref p) H2
theorem x_slice {lo hi : Option Expr} {tl th : TO} {p2 : Pos} (he : PE X e te) (hl : PO X lo tl) (hu : PO X hi th) : PE X (.Subscript e (.Slice lo hi none p2) pos) (tSl (rSl X.K) te tl th) :=
  pe_slice (slW sl_list fun x lo hi H Q ⟨xs, ⟨a, h1, h2⟩, q⟩ => ⟨a, xs, h1, h2, fun p hp => q p _ (New.of hp)⟩) he hl hu
def rCt : R2 := fun x y H Q => ∃ l b xs zs, x = .ref l ∧ y = .ref b ∧ H l = some (.lst xs) ∧ H b = some (.lst zs) ∧ xs.length + zs.length ≤ sizeLine ∧ ∀ p H2, New H p (.lst (xs ++ zs)) H2 → Q (.ref p) H2
theorem x_opcat : OpR X (binaryOp .Add) rCt := opW op_cat fun x y H Q ⟨l, b, xs, zs, h1, h2, h3, h4, h5, q⟩ => ⟨l, b, xs, zs, h1, h2, h3, h4, h5, fun p hp => q p _ (New.of hp)⟩
def rE (g : Int → Int → Bool) : R2 := rI0 fun i j => .bl (g i j)
theorem x_opeq : OpR X (compareOp .Eq) (rI0 fun i j => .bl (decide (i = j))) := opW op_eq fun x y H Q ⟨i, j, h1, h2, q⟩ => by
  subst h1 h2
  refine ⟨rfl, ?_⟩
  have e : decide (V.int i = V.int j) = decide (i = j) := by
    by_cases h : i = j
    · subst h; simp
    · rw [decide_eq_false h, decide_eq_false (fun z => h (V.int.inj z))]
  rw [e]
  exact q
theorem x_opne : OpR X (compareOp .NotEq) (rI0 fun i j => .bl (!decide (i = j))) := opW op_ne fun x y H Q ⟨i, j, h1, h2, q⟩ => by
  subst h1 h2
  refine ⟨rfl, ?_⟩
  have e : decide (V.int i = V.int j) = decide (i = j) := by
    by_cases h : i = j
    · subst h; simp
    · rw [decide_eq_false h, decide_eq_false (fun z => h (V.int.inj z))]
  rw [e]
  exact q
def Sm (n : Nat) (z : Int) : Prop := z.natAbs < 2 ^ n
theorem log2_lt {z : Int} {n : Nat} (hn : 0 < n) (h : Sm n z) : z.natAbs.log2 < n := by
  rcases Nat.eq_zero_or_pos z.natAbs with h0 | hp
  · rw [h0]
    exact hn
  · exact (Nat.log2_lt (Nat.ne_of_gt hp)).mpr h
theorem bits_le {z : Int} {n : Nat} (hn : 0 < n) (h : Sm n z) : Builtin.Int.intBits z ≤ n := by
  unfold Builtin.Int.intBits
  split
  · exact Nat.zero_le _
  · exact log2_lt hn h
theorem mul_ok {i j : Int} (hi : Sm 3000 i) (hj : Sm 3000 j) : IntMulOk i j := by
  have h1 := bits_le (by decide) hi
  have h2 := bits_le (by decide) hj
  have hc : Builtin.Int.intTooBig (Builtin.Int.intBits i + Builtin.Int.intBits j) = false := by
    unfold Builtin.Int.intTooBig bitsLine
    exact decide_eq_false (by omega)
  unfold IntMulOk
  rw [hc]
  simp
theorem x_opmul : OpR X (binaryOp .Mult) (rI (fun i j => Sm 3000 i ∧ Sm 3000 j) fun i j => .int (i * j)) := opI fun _ _ _ _ _ _ _ hc q => mul_int q (mul_ok hc.1 hc.2)
theorem x_opdiv : OpR X (binaryOp .FloorDiv) (rI (fun _ j => 0 < j ∧ Sm 3000 j) fun i j => .int (i / j)) := opI fun i j _ _ _ _ _ hc q => by
  have h1 : (0 : Int) < j := hc.1
  exact floordiv_int (by omega) (by rw [Int.fdiv_eq_ediv_of_nonneg i (by omega)]; exact q) (.inl (PyProof.noPylong_of_log2 (Nat.lt_of_lt_of_le (log2_lt (by decide) hc.2) (by decide))))
theorem x_callen : CallR X (.builtin "len") (fun xs H Q => ∃ n, LenF X.K H xs n ∧ Q (.int (n : Int)) H) := callW call_len_seq fun xs H Q ⟨n, ⟨p, ys, h1, h2, h3⟩, q⟩ => ⟨p, ys, h1, h2, by rw [h3]; exact q⟩
theorem x_calsorted : CallR X (.builtin "sorted") (fun vs H Q => ∃ (ns : List Int), (∃ a, vs = [V.ref a] ∧ SqL X.K H a (ns.map V.int)) ∧ ns.length < 64 ∧ ∀ (ns' : List Int) (p : Addr) (H2 : Hp), ns'.Perm ns → ns'.Pairwise (· ≤ ·) → New H p (.lst (ns'.map V.int)) H2 → Q (.ref p) H2) :=
  callW cr_sorted fun xs H Q ⟨ns, ⟨a, h1, h2⟩, h3, q⟩ => ⟨a, ns, h1, h2, h3, fun ns' p g1 g2 hp => q ns' p _ g1 g2 (New.of hp)⟩
theorem boot_str' : bootBuiltins "str" = some (.type "str") := by decide +kernel
theorem boot_abs' : bootBuiltins "abs" = some (.builtin "abs") := by decide +kernel
theorem boot_min' : bootBuiltins "min" = some (.builtin "min") := by decide +kernel
theorem boot_max' : bootBuiltins "max" = some (.builtin "max") := by decide +kernel
theorem boot_sum' : bootBuiltins "sum" = some (.builtin "sum") := by decide +kernel
theorem boot_ord' : bootBuiltins "ord" = some (.builtin "ord") := by decide +kernel
theorem boot_sorted' : bootBuiltins "sorted" = some (.builtin "sorted") := by decide +kernel
theorem boot_len' : bootBuiltins "len" = some (.builtin "len") := by decide +kernel
theorem x_str (hg : Gl X "str") (hm : X.mg "str" = none) (ha : PA X (e :: es) t) (he : starEach (e :: es) X.env = (false, eval e X.env) :: starEach es X.env := by rfl) (hpl : (backTo pos (starEach es X.env)).any (·.1) = false := by rfl) :
    PE X (.Call (.Name "str" p) (e :: es) [] pos) (tCB (fun xs H Q => ∃ i, xs = [.int i] ∧ i.natAbs.log2 < 1920 ∧ Q (.str (toString i)) H) t) :=
  pe_callTy call_str_int hg hm boot_str' ha (by decide) (by decide) he hpl
def tChain3 (r r' r'' : R2) (ta tb tc td : TE) : TE := fun σ H Q => ta σ H fun x H1 => tb σ H1 fun y H2 => r x y H2 fun z H3 => ∃ k, z = .bl k ∧
  (if k = true then tc σ H3 fun w' H4 => r' y w' H4 fun z' H5 => ∃ k', z' = .bl k' ∧ (if k' = true then td σ H5 fun w'' H6 => r'' w' w'' H6 Q else Q (.bl false) H5) else Q (.bl false) H3)
theorem pe_chain3 {op op' op'' : CmpOp} {r r' r'' : R2} (ho : OpR X (compareOp op) r) (ho' : OpR X (compareOp op') r') (ho'' : OpR X (compareOp op'') r'') (ha : PE X a ta) (hb : PE X b tb) (hc : PE X c tc) (hd : PE X d td)
    (hm : lastMarks [op, op', op''] [b, c, d] = false := by with_unfolding_all rfl) : PE X (.Compare a [op, op', op''] [b, c, d] pos) (tChain3 r r' r'' ta tb tc td) := by
  intro pins s σ H Q I h
  refine Compare_chain (thn (ha pins s σ H _ I h) fun v s1 ⟨x, H1, I1, r1, q1⟩ => chain_link (thn (hb pins s1 σ H1 _ I1 q1) fun u s2 ⟨y, H2, I2, r2, q2⟩ =>
    thn (ho pins s2 σ H2 x y v u _ I2 r1 r2 q2) fun d s3 ⟨z, H3, I3, r3, k, e, q3⟩ => ?_)) hm
  subst e
  cases r3
  refine wpAny_truthy_bool ?_
  cases k with
  | false => exact ite_ff ⟨.bl false, H3, I3, rfl, q3⟩
  | true =>
    refine ite_tt (chain_link (thn (hc pins s3 σ H3 _ I3 q3) fun u' s4 ⟨y', H4, I4, r4, q4⟩ => thn (ho' pins s4 σ H4 y y' u u' _ I4 r2 r4 q4) fun d' s5 ⟨z', H5, I5, r5, k', e', q5⟩ => ?_))
    subst e'
    cases r5
    refine wpAny_truthy_bool ?_
    cases k' with
    | false => exact ite_ff ⟨.bl false, H5, I5, rfl, q5⟩
    | true => exact ite_tt (chain_last (thn (hd pins s5 σ H5 _ I5 q5) fun w' s6 ⟨z'', H6, I6, r6, q6⟩ => ho'' pins s6 σ H6 y' z'' u' w' Q I6 r4 r6 q6))
structure Def (P : Program) (w : World) (K : PySem.W.Frag) (mg : Str → Option Value) (base : Heap) (x : Str) (k : Nat) (ps : List Str) (sp : Sp) : Prop where
  ex : ∃ f fd, mg x = some (.ref f) ∧ PySem.W.keepIn K (.ref f) = true ∧ Binds K fd ps [] ∧ FnOk P w K mg base CX0 k f fd ps sp
structure MethD (P : Program) (w : World) (K : PySem.W.Frag) (mg : Str → Option Value) (base : Heap) (C : Addr) (m : Str) (k : Nat) (ps : List Str) (sp : Sp) : Prop where
  ex : ∃ f fd, Cls K C ∧ Meth K C m f ∧ Binds K fd ps [] ∧ FnOk P w K mg base CX0 k f fd ps sp
structure MakeD (P : Program) (w : World) (K : PySem.W.Frag) (mg : Str → Option Value) (base : Heap) (x : Str) (C : Addr) (k : Nat) (ps : List Str) (sp : Sp) : Prop where
  ex : ∃ f fd, Mk K C f ∧ mg x = some (.ref C) ∧ Binds K fd ps [] ∧ FnOk P w K mg base CX0 k f fd ps sp
def xCall (sp : Sp) (t : TA) : TE := fun σ H Q => t σ H fun vs H1 => sp vs H1 Q E0
theorem x_call (D : Def X.prog X.w X.K X.mg X.base x k ps sp) (hr : Room k X.A) (hg : Gl X x) (ha : PA X (e :: es) t) (hdb : (x == ("__debug__" : Str)) = false := by decide) (he : starEach (e :: es) X.env = (false, eval e X.env) :: starEach es X.env := by rfl) (hpl : (backTo pos (starEach es X.env)).any (·.1) = false := by rfl) :
    PE X (.Call (.Name x p) (e :: es) [] pos) (xCall sp t) := by
  obtain ⟨f, fd, h1, h2, h3, h4⟩ := D.ex
  refine peEq (pe_call h4 hr hg h1 h2 h3 .nil pass0 ha hdb he hpl) ?_
  funext σ H Q
  unfold xCall tCall
  simp only [List.append_nil]
def xMeth (C : Addr) (m : Str) (sp : Sp) (ta : TE) (t : TA) : TE := fun σ H Q => ta σ H fun x H1 => InsNo H1 x C m ∧ t σ H1 fun vs H2 => sp (x :: vs) H2 Q E0
theorem xMeth_eq {C : Addr} {m : Str} {sp : Sp} {ta : TE} {t : TA} : xMeth C m sp ta t = tMeth C m sp [] E0 ta t := by
  funext σ H Q
  unfold xMeth tMeth
  simp only [List.append_nil]
  congr 1
  funext x H1
  exact propext ⟨fun ⟨⟨a, dx, fs, h1, h2, h3⟩, q⟩ => ⟨a, dx, fs, h1, h2, h3, q⟩, fun ⟨a, dx, fs, h1, h2, h3, q⟩ => ⟨⟨a, dx, fs, h1, h2, h3⟩, q⟩⟩
theorem x_meth {pl : Sem Bool} (he : PE X o ta) (D : MethD X.prog X.w X.K X.mg X.base C m k ps sp) (hr : Room k X.A) (ha : PA X (e :: es) t)
    (hst : starEach (e :: es) X.env = (false, eval e X.env) :: starEach es X.env := by rfl) (hpl : (backTo pos (starEach es X.env)).any (·.1) = false := by rfl)
    (ht : eval (.Call (.Attribute o m apos) (e :: es) [] pos) X.env = (do
      let ov ← eval o X.env
      standAt apos.atName
      let (f, first) ← holding [ov] (getMethod ov m pl)
      callWith pos f first (backTo pos (starEach (e :: es) X.env)) (backToKw pos (keywordEach [] X.env))) := by rfl) :
    PE X (.Call (.Attribute o m apos) (e :: es) [] pos) (xMeth C m sp ta t) := by
  obtain ⟨f, fd, h1, h2, h3, h4⟩ := D.ex
  exact peEq (pe_meth he h1 h2 h4 hr h3 .nil pass0 ha hst hpl ht) xMeth_eq
theorem x_meth0 {pl : Sem Bool} (he : PE X o ta) (D : MethD X.prog X.w X.K X.mg X.base C m k ps sp) (hr : Room k X.A)
    (ht : eval (.Call (.Attribute o m apos) [] [] pos) X.env = (do
      let ov ← eval o X.env
      standAt apos.atName
      let (f, first) ← holding [ov] (getMethod ov m pl)
      callWith pos f first (backTo pos (starEach [] X.env)) (backToKw pos (keywordEach [] X.env))) := by rfl) :
    PE X (.Call (.Attribute o m apos) [] [] pos) (xMeth C m sp ta tNil) := by
  obtain ⟨f, fd, h1, h2, h3, h4⟩ := D.ex
  exact peEq (pe_meth0 he h1 h2 h4 hr h3 .nil pass0 ht) xMeth_eq
structure MkN (C : Addr) (H : Hp) (x dx : Addr) (H2 : Hp) : Prop where
  fresh : H x = none
  at_ : H2 x = some (.ins C dx [])
  same : Same H H2
def xMake (C : Addr) (sp : Sp) (t : TA) : TE := fun σ H Q => t σ H fun vs H1 => ∀ x dx H2, MkN C H1 x dx H2 → sp (.ref x :: vs) H2 (fun v H3 => v = .non ∧ Q (.ref x) H3) E0
theorem x_make (D : MakeD X.prog X.w X.K X.mg X.base x C k ps sp) (hr : Room (k + 1) X.A) (hg : Gl X x) (ha : PA X (e :: es) t) (hdb : (x == ("__debug__" : Str)) = false := by decide) (he : starEach (e :: es) X.env = (false, eval e X.env) :: starEach es X.env := by rfl) (hpl : (backTo pos (starEach es X.env)).any (·.1) = false := by rfl) :
    PE X (.Call (.Name x p) (e :: es) [] pos) (xMake C sp t) := by
  obtain ⟨f, fd, M, hm, hb, F⟩ := D.ex
  intro pins s σ H Q I h
  refine wpAny_Call_Name_kw (ld_glob I hg hm ?_ hdb)
  refine PySem.W.callWith_K (h₀ := X.base) I.ok.mod.kin M.kp (thn (ha pos pins s σ H _ I h) fun us s1 ⟨vs, H1, I1, r, q⟩ => ⟨I1.kIn, ?_⟩) he hpl
  refine run_make M F hr hb .nil pass0 I1 r fun x dx h1 h2 h3 => ?_
  rw [List.append_nil]
  refine q x dx _ ⟨h1, upd_same, fun b o e => ?_⟩
  rw [upd_ne (ne_of_none e h1), upd_ne (ne_of_none e h2)]
  exact e
def FnV (P : Program) (w : World) (K : PySem.W.Frag) (mg : Str → Option Value) (base : Heap) (k : Nat) (v : V) (sp : Sp) : Prop := ∃ f fd ps, v = .ref f ∧ PySem.W.keepIn K (.ref f) = true ∧ Binds K fd ps [] ∧ FnOk P w K mg base CX0 k f fd ps sp
def xCallV (P : Program) (w : World) (K : PySem.W.Frag) (mg : Str → Option Value) (base : Heap) (k : Nat) (tf : TE) (t : TA) : TE := fun σ H Q => tf σ H fun v H1 => ∃ sp, FnV P w K mg base k v sp ∧ t σ H1 fun vs H2 => sp vs H2 Q E0
theorem x_callv {func : Expr} {tf : TE} (hr : Room k X.A) (hf : PE X func tf) (ha : PA X (e :: es) t) (hst : starEach (e :: es) X.env = (false, eval e X.env) :: starEach es X.env := by rfl) (hpl : (backTo pos (starEach es X.env)).any (·.1) = false := by rfl)
    (he : eval (.Call func (e :: es) [] pos) X.env = (do callWith pos (← eval func X.env) [] (backTo pos (starEach (e :: es) X.env)) (backToKw pos (keywordEach [] X.env))) := by rfl) :
    PE X (.Call func (e :: es) [] pos) (xCallV X.prog X.w X.K X.mg X.base k tf t) := by
  intro pins s σ H Q I h
  refine Call_ (thn (hf pins s σ H _ I h) fun u s0 ⟨v, H0, I0, r0, sp, ⟨f, fd, ps, ev, h1, h2, h3⟩, q0⟩ => ?_) he
  subst ev
  obtain rfl : u = Value.ref f := r0
  refine PySem.W.callWith_K (h₀ := X.base) I.ok.mod.kin h1 (thn (ha pos pins s0 σ H0 _ I0 q0) fun us s1 ⟨vs, H1, I1, r, q⟩ => ⟨I1.kIn, ?_⟩) hst hpl
  exact run_fn h3 hr h2 .nil pass0 I1 r (by rw [List.append_nil]; exact q)
end
def mkSp (n : Nat) (b : List V → Hp → VK → Prop) : Sp := fun vs H Q _ => vs.length = n ∧ b vs H Q
theorem ifB {p : Prop} [Decidable p] {A B : Prop} (h1 : p → A) (h2 : ¬ p → B) : if decide p = true then A else B := by
  by_cases h : p
  · rw [decide_eq_true h]; exact iteT (h1 h)
  · rw [decide_eq_false h]; exact iteF (h2 h)
theorem ifN {p : Prop} [Decidable p] {A B : Prop} (h1 : ¬ p → A) (h2 : p → B) : if (!decide p) = true then A else B := by
  by_cases h : p
  · rw [decide_eq_true h]; exact iteF (h2 h)
  · rw [decide_eq_false h]; exact iteT (h1 h)
theorem ifC {c : Bool} {A B : Prop} (h1 : c = true → A) (h2 : c = false → B) : if c = true then A else B := by
  cases c with
  | true => exact iteT (h1 rfl)
  | false => exact iteF (h2 rfl)
theorem ifCN {c : Bool} {A B : Prop} (h1 : c = false → A) (h2 : c = true → B) : if (!c) = true then A else B := by
  cases c with
  | true => exact iteF (h2 rfl)
  | false => exact iteT (h1 rfl)
end L3
set_option Elab.async false
set_option linter.all false
set_option maxRecDepth 100000
set_option maxHeartbeats 2000000
namespace Tw
open PySem PySem.Spec PyProof.Rows L2 L3
abbrev Fq := Vbdlac.Q
abbrev Ch := Vbdlac.Channel
abbrev Fm := Vbdlac.Form
abbrev Lm := Vbdlac.Limits
abbrev Sn := Vbdlac.Sensor
def top (i : Nat) : Stmt := PySem.Challenge.pw_twinsensors_s01_answers.main.body.getD i (.Pass ⟨0, 0, 0, 0⟩)
structure Cs where
  ch : Addr
  li : Addr
  se : Addr
  st : Addr
  fo : Addr
  ca : Addr
  fs : List Addr
  cs : List Addr
def TupK (K : PySem.W.Frag) (a : Addr) (xs : List V) : Prop := ∃ (o : Obj) (its : Array Value) (n : Nat), K.lookup a = some o ∧ o.cls = .type "tuple" ∧ o.data = .seq its n ∧ its.size ≤ sizeLine ∧ Vals xs its.toList
theorem TupK.sq {K : PySem.W.Frag} {a : Addr} {xs : List V} (h : TupK K a xs) (H : Hp) : SqT K H a xs := .inr h
def FrAt (H : Hp) (p : Addr) (a : Fq) : Prop := H p = some (.tup [.int a.num, .int (a.den : Int)])
def PtsAt (H : Hp) (ps : List Addr) (l : List (Int × Int)) : Prop := ps.length = l.length ∧ ∀ (i : Nat) (p : Addr) (c : Int × Int), ps[i]? = some p → l[i]? = some c → H p = some (.tup [.int c.1, .int c.2])
def PairsAt (H : Hp) (a : Addr) (l : List (Int × Int)) : Prop := ∃ ps : List Addr, H a = some (.lst (ps.map V.ref)) ∧ PtsAt H ps l
def stF (f : Fm) (pl : Addr) : List (Str × V) := [("width", .int (f.width : Int)), ("tolerance", .int f.tol), ("times", .int (f.times : Int)), ("stuck", .int (f.stuck : Int)), ("side", .int (f.side : Int)), ("lo", .int f.lo), ("hi", .int f.hi), ("points", .ref pl)]
def chF (st g o w : Addr) (a u t : Int) : List (Str × V) := [("settings", .ref st), ("gain", .ref g), ("offset", .ref o), ("window", .ref w), ("alike", .int a), ("out", .int u), ("fault", .int t)]
def liF (low high back below above alarm : Int) : List (Str × V) := [("low", .int low), ("high", .int high), ("back", .int back), ("below", .int below), ("above", .int above), ("alarm", .int alarm)]
def seF (st l : Addr) (u : Int) (lim : V) : List (Str × V) := [("settings", .ref st), ("channels", .ref l), ("unlike", .int u), ("limits", lim)]
def SetAt (C : Cs) (H : Hp) (st : Addr) (f : Fm) : Prop := ∃ dx pl, H st = some (.ins C.st dx (stF f pl)) ∧ PairsAt H pl f.table
structure ChC (C : Cs) (H : Hp) (c dx st g o w : Addr) (f : Fm) (ch : Ch) : Prop where
  at_ : H c = some (.ins C.ch dx (chF st g o w (ch.same : Int) (ch.out : Int) (ch.fault : Int)))
  set : SetAt C H st f
  ga : FrAt H g ch.gain
  off : FrAt H o ch.offset
  win : H w = some (.lst (ch.window.map V.int))
def ChAt (C : Cs) (H : Hp) (c : Addr) (f : Fm) (ch : Ch) : Prop := ∃ dx st g o w, ChC C H c dx st g o w f ch
def LiAt (C : Cs) (H : Hp) (p : Addr) (l : Lm) : Prop := ∃ dx, H p = some (.ins C.li dx (liF l.low l.high l.back (l.below : Int) (l.above : Int) (l.alarm : Int)))
structure SA where
  x : Addr
  c0 : Addr
  c1 : Addr
  L : Option Addr
def limV : Option Addr → V
  | none => .non
  | some p => .ref p
def LimO (C : Cs) (H : Hp) : Option Addr → Option Lm → Prop
  | none, none => True
  | some p, some l => LiAt C H p l
  | _, _ => False
structure SeC (C : Cs) (H : Hp) (a : SA) (dx st l : Addr) (s : Sn) : Prop where
  at_ : H a.x = some (.ins C.se dx (seF st l (s.unlike : Int) (limV a.L)))
  set : SetAt C H st s.form
  chs : H l = some (.lst [.ref a.c0, .ref a.c1])
  a0 : ChAt C H a.c0 s.form s.a
  a1 : ChAt C H a.c1 s.form s.b
  ne : a.c0 ≠ a.c1
  lim : LimO C H a.L s.limits
def SeAt (C : Cs) (H : Hp) (a : SA) (s : Sn) : Prop := ∃ dx st l, SeC C H a dx st l s
def foot (a : SA) : List Addr := a.x :: a.c0 :: a.c1 :: a.L.toList
structure Rep (C : Cs) (H : Hp) (ls : Addr) (as : List SA) (ss : List Sn) : Prop where
  lst : H ls = some (.lst (as.map fun a => V.ref a.x))
  len : as.length = ss.length
  at_ : ∀ (i : Nat) (a : SA) (s : Sn), as[i]? = some a → ss[i]? = some s → SeAt C H a s
  apart : ∀ (i j : Nat) (a b : SA), i ≠ j → as[i]? = some a → as[j]? = some b → ∀ z ∈ foot a, z ∉ foot b
theorem FrAt.same {H H' : Hp} {p : Addr} {a : Fq} (h : FrAt H p a) (s : Same H H') : FrAt H' p a := s _ _ h
theorem PairsAt.same {H H' : Hp} {p : Addr} {l : List (Int × Int)} (h : PairsAt H p l) (s : Same H H') : PairsAt H' p l := by
  obtain ⟨ps, h1, h2, h3⟩ := h
  exact ⟨ps, s _ _ h1, h2, fun i q c e1 e2 => s _ _ (h3 i q c e1 e2)⟩
theorem PairsAt.fr {l0 : List Addr} {H H' : Hp} {p : Addr} {l : List (Int × Int)} (h : PairsAt H p l) (s : Fr l0 H H') (m : MutL H l0) : PairsAt H' p l := by
  obtain ⟨ps, h1, h2, h3⟩ := h
  exact ⟨ps, s.keep m h1 (.inl rfl), h2, fun i q c e1 e2 => s.keep m (h3 i q c e1 e2) (.inl rfl)⟩
section
variable {C : Cs} {H H' : Hp} {st c p : Addr} {f : Fm} {ch : Ch} {l0 : List Addr} {l : Lm} {a : SA} {s : Sn}
theorem SetAt.same (h : SetAt C H st f) (s : Same H H') : SetAt C H' st f := by
  obtain ⟨dx, pl, h1, h2⟩ := h
  exact ⟨dx, pl, s _ _ h1, h2.same s⟩
theorem SetAt.fr (h : SetAt C H st f) (s : Fr l0 H H') (m : MutL H l0) : SetAt C H' st f := by
  obtain ⟨dx, pl, h1, h2⟩ := h
  exact ⟨dx, pl, s.keep m h1 (.inr rfl), h2.fr s m⟩
theorem ChC.same {dx g o w : Addr} (h : ChC C H c dx st g o w f ch) (s : Same H H') : ChC C H' c dx st g o w f ch := ⟨s _ _ h.at_, h.set.same s, h.ga.same s, h.off.same s, s _ _ h.win⟩
theorem ChAt.same (h : ChAt C H c f ch) (s : Same H H') : ChAt C H' c f ch := by
  obtain ⟨dx, st, g, o, w, h⟩ := h
  exact ⟨dx, st, g, o, w, h.same s⟩
theorem ChAt.fr (h : ChAt C H c f ch) (s : Fr l0 H H') (m : MutL H l0) (n : c ∉ l0) : ChAt C H' c f ch := by
  obtain ⟨dx, st, g, o, w, h⟩ := h
  exact ⟨dx, st, g, o, w, s _ _ n h.at_, h.set.fr s m, s.keep m h.ga (.inl rfl), s.keep m h.off (.inl rfl), s.keep m h.win (.inl rfl)⟩
theorem ChAt.kind (h : ChAt C H c f ch) : ∃ o, H c = some o ∧ L3.kind o = 107 := by
  obtain ⟨dx, st, g, o, w, h⟩ := h
  exact ⟨_, h.at_, rfl⟩
theorem LiAt.same (h : LiAt C H p l) (s : Same H H') : LiAt C H' p l := by
  obtain ⟨dx, h⟩ := h
  exact ⟨dx, s _ _ h⟩
theorem LiAt.fr (h : LiAt C H p l) (s : Fr l0 H H') (n : p ∉ l0) : LiAt C H' p l := by
  obtain ⟨dx, h⟩ := h
  exact ⟨dx, s _ _ n h⟩
theorem LiAt.kind (h : LiAt C H p l) : ∃ o, H p = some o ∧ L3.kind o = 106 := by
  obtain ⟨dx, h⟩ := h
  exact ⟨_, h, rfl⟩
theorem LimO.same {L : Option Addr} {o : Option Lm} (h : LimO C H L o) (s : Same H H') : LimO C H' L o := by
  cases L <;> cases o <;> first | exact h | exact LiAt.same h s
theorem LimO.fr {L : Option Addr} {o : Option Lm} (h : LimO C H L o) (s : Fr l0 H H') (n : ∀ p ∈ L.toList, p ∉ l0) : LimO C H' L o := by
  cases L with
  | none => cases o <;> exact h
  | some p =>
    cases o with
    | none => exact h
    | some l => exact LiAt.fr h s (n p (by simp))
theorem LimO.kind {L : Option Addr} {o : Option Lm} (h : LimO C H L o) : ∀ p ∈ L.toList, ∃ u, H p = some u ∧ L3.kind u = 106 := by
  intro p hp
  cases L with
  | none => simp at hp
  | some q =>
    have e : p = q := by simpa using hp
    subst e
    cases o with
    | none => exact h.elim
    | some l => exact LiAt.kind h
theorem SeC.same {dx l : Addr} (h : SeC C H a dx st l s) (e : Same H H') : SeC C H' a dx st l s := ⟨e _ _ h.at_, h.set.same e, e _ _ h.chs, h.a0.same e, h.a1.same e, h.ne, h.lim.same e⟩
theorem SeAt.same (h : SeAt C H a s) (e : Same H H') : SeAt C H' a s := by
  obtain ⟨dx, st, l, h⟩ := h
  exact ⟨dx, st, l, h.same e⟩
theorem SeC.mutl {dx l : Addr} (h : SeC C H a dx st l s) : MutL H (foot a) := by
  intro z hz o ho
  have key : ∀ u k, H z = some u → L3.kind u = k → k ≠ 0 → k ≠ 108 → L3.kind o ≠ 0 ∧ L3.kind o ≠ 108 := by
    intro u k e1 e2 n1 n2
    rw [ho] at e1
    cases e1
    rw [e2]
    exact ⟨n1, n2⟩
  rcases List.mem_cons.mp hz with e | hz
  · subst e
    exact key _ 104 h.at_ rfl (by decide) (by decide)
  · rcases List.mem_cons.mp hz with e | hz
    · subst e
      obtain ⟨u, e1, e2⟩ := h.a0.kind
      exact key u 107 e1 e2 (by decide) (by decide)
    · rcases List.mem_cons.mp hz with e | hz
      · subst e
        obtain ⟨u, e1, e2⟩ := h.a1.kind
        exact key u 107 e1 e2 (by decide) (by decide)
      · obtain ⟨u, e1, e2⟩ := h.lim.kind z hz
        exact key u 106 e1 e2 (by decide) (by decide)
theorem SeAt.mutl (h : SeAt C H a s) : MutL H (foot a) := by
  obtain ⟨dx, st, l, h⟩ := h
  exact h.mutl
theorem SeAt.fr (h : SeAt C H a s) (e : Fr l0 H H') (m : MutL H l0) (n : ∀ z ∈ foot a, z ∉ l0) : SeAt C H' a s := by
  obtain ⟨dx, st, l, h⟩ := h
  exact ⟨dx, st, l, e _ _ (n _ (by simp [foot])) h.at_, h.set.fr e m, e.keep m h.chs (.inl rfl), h.a0.fr e m (n _ (by simp [foot])), h.a1.fr e m (n _ (by simp [foot])), h.ne, h.lim.fr e fun p hp => n p (by simp [foot]; exact .inr (.inr (.inr (by simpa using hp))))⟩
theorem SeAt.inFoot (h : SeAt C H a s) : ∀ z ∈ foot a, ∃ u, H z = some u := by
  obtain ⟨dx, st, l, h⟩ := h
  intro z hz
  rcases List.mem_cons.mp hz with e | hz
  · subst e
    exact ⟨_, h.at_⟩
  · rcases List.mem_cons.mp hz with e | hz
    · subst e
      obtain ⟨u, e1, e2⟩ := h.a0.kind
      exact ⟨u, e1⟩
    · rcases List.mem_cons.mp hz with e | hz
      · subst e
        obtain ⟨u, e1, e2⟩ := h.a1.kind
        exact ⟨u, e1⟩
      · obtain ⟨u, e1, e2⟩ := h.lim.kind z hz
        exact ⟨u, e1⟩
end
theorem mut1 {H : Hp} {a : Addr} {o : HO} (h : H a = some o) (k : kind o ≠ 0 ∧ kind o ≠ 108) : MutL H [a] := by
  intro z hz u hu
  have e : z = a := by simpa using hz
  subst e
  rw [h] at hu
  cases hu
  exact k
theorem Rep.same {C : Cs} {H H' : Hp} {ls : Addr} {as : List SA} {ss : List Sn} (r : Rep C H ls as ss) (e : Same H H') : Rep C H' ls as ss := ⟨e _ _ r.lst, r.len, fun i a s h1 h2 => (r.at_ i a s h1 h2).same e, r.apart⟩
theorem Rep.put {C : Cs} {H H' : Hp} {ls : Addr} {as : List SA} {ss : List Sn} {i : Nat} {a a' : SA} {s s' : Sn} (r : Rep C H ls as ss) (h1 : as[i]? = some a) (h2 : ss[i]? = some s) (e : Fr (foot a) H H') (n : SeAt C H' a' s') (ex : a'.x = a.x)
    (fr : ∀ z ∈ foot a', z ∈ foot a ∨ H z = none) : Rep C H' ls (as.set i a') (ss.set i s') := by
  have S := r.at_ i a s h1 h2
  have m := S.mutl
  have hi : i < as.length := (List.getElem?_eq_some_iff.mp h1).1
  have hi2 : i < ss.length := (List.getElem?_eq_some_iff.mp h2).1
  have far : ∀ (j : Nat) (b : SA), j ≠ i → as[j]? = some b → ∀ z ∈ foot b, z ∉ foot a' := by
    intro j b hj hb z hz hz'
    have hjs : j < as.length := (List.getElem?_eq_some_iff.mp hb).1
    obtain ⟨t, ht⟩ : ∃ t, ss[j]? = some t := ⟨ss[j]'(by rw [← r.len]; exact hjs), List.getElem?_eq_getElem _⟩
    rcases fr z hz' with q | q
    · exact r.apart i j a b (Ne.symm hj) h1 hb z q hz
    · obtain ⟨u, hu⟩ := (r.at_ j b t hb ht).inFoot z hz
      rw [hu] at q
      cases q
  refine ⟨?_, ?_, ?_, ?_⟩
  · have e1 : (as.set i a').map (fun a => V.ref a.x) = as.map fun a => V.ref a.x := by
      rw [List.map_set, ex]
      apply List.ext_getElem?
      intro j
      by_cases hj : i = j
      · subst hj
        rw [List.getElem?_set_self (by rw [List.length_map]; exact hi), List.getElem?_map, h1]
        rfl
      · rw [List.getElem?_set_ne hj]
    rw [e1]
    exact e.keep m r.lst (.inl rfl)
  · rw [List.length_set, List.length_set]
    exact r.len
  · intro j b t hb ht
    by_cases hj : i = j
    · subst hj
      rw [List.getElem?_set_self hi] at hb
      rw [List.getElem?_set_self hi2] at ht
      cases hb
      cases ht
      exact n
    · rw [List.getElem?_set_ne hj] at hb ht
      exact (r.at_ j b t hb ht).fr e m fun z hz hz' => r.apart j i b a (Ne.symm hj) hb h1 z hz hz'
  · intro j k b d hjk hb hd z hz hz'
    by_cases hj : i = j
    · subst hj
      rw [List.getElem?_set_self hi] at hb
      cases hb
      rw [List.getElem?_set_ne hjk] at hd
      exact far k d (Ne.symm hjk) hd z hz' hz
    · rw [List.getElem?_set_ne hj] at hb
      by_cases hk : i = k
      · subst hk
        rw [List.getElem?_set_self hi] at hd
        cases hd
        exact far j b (Ne.symm hj) hb z hz hz'
      · rw [List.getElem?_set_ne hk] at hd
        exact r.apart j k b d hjk hb hd z hz hz'
theorem Rep.add {C : Cs} {H H' : Hp} {ls : Addr} {as : List SA} {ss : List Sn} {a : SA} {s : Sn} (r : Rep C H ls as ss) (e : ∀ b o, b ≠ ls → H b = some o → H' b = some o) (hl : H' ls = some (.lst ((as ++ [a]).map fun a => V.ref a.x))) (n : SeAt C H' a s) (fr : ∀ z ∈ foot a, H z = none) :
    Rep C H' ls (as ++ [a]) (ss ++ [s]) := by
  have e' : Fr [ls] H H' := fun b o hb hh => e b o (by simpa using hb) hh
  have old : ∀ (j : Nat) (b : SA) (t : Sn), as[j]? = some b → ss[j]? = some t → SeAt C H' b t := by
    intro j b t hb ht
    have h0 : 0 < as.length := Nat.lt_of_le_of_lt (Nat.zero_le _) (List.getElem?_eq_some_iff.mp hb).1
    obtain ⟨a0, ha0⟩ : ∃ a0, as[0]? = some a0 := ⟨as[0], List.getElem?_eq_getElem h0⟩
    obtain ⟨s0, hs0⟩ : ∃ s0, ss[0]? = some s0 := ⟨ss[0]'(by rw [← r.len]; exact h0), List.getElem?_eq_getElem _⟩
    obtain ⟨d0, t0, l0, S0⟩ := r.at_ 0 a0 s0 ha0 hs0
    have k0 := S0.at_
    obtain ⟨dx, st, l, S⟩ := r.at_ j b t hb ht
    have nk : ∀ {z : Addr} {o : HO}, H z = some o → kind o ≠ 0 → z ≠ ls := fun h k => ne_kind h r.lst k
    have nt : ∀ {z : Addr} {xs : List V}, H z = some (.tup xs) → z ≠ ls := fun h => ne_of h r.lst (by intro q; cases q)
    have nl : ∀ {z : Addr} {xs : List V}, H z = some (.lst xs) → xs[0]? ≠ some (V.ref a0.x) → z ≠ ls := fun {z xs} h k e => by
      subst e
      rw [r.lst] at h
      cases h
      rw [List.getElem?_map, ha0] at k
      exact k rfl
    have prs : ∀ {z : Addr} {q : List (Int × Int)}, PairsAt H z q → PairsAt H' z q := fun {z q} h => by
      obtain ⟨ps, h1, h2, h3⟩ := h
      refine ⟨ps, e _ _ (nl h1 fun q0 => ?_) h1, h2, fun i q c e1 e2 => e _ _ (nt (h3 i q c e1 e2)) (h3 i q c e1 e2)⟩
      rw [List.getElem?_map] at q0
      cases hp : ps[0]? with
      | none => rw [hp] at q0; cases q0
      | some p0 =>
        rw [hp] at q0
        have ep : p0 = a0.x := V.ref.inj (Option.some.inj q0)
        obtain ⟨c0, hc0⟩ : ∃ c0, q[0]? = some c0 := ⟨q[0]'(by rw [← h2]; exact (List.getElem?_eq_some_iff.mp hp).1), List.getElem?_eq_getElem _⟩
        have z := h3 0 p0 c0 hp hc0
        rw [ep, k0] at z
        cases z
    have sets : ∀ {z : Addr} {f : Fm}, SetAt C H z f → SetAt C H' z f := fun {z f} h => by
      obtain ⟨d, pl, h1, h2⟩ := h
      exact ⟨d, pl, e _ _ (nk h1 (by show (108 : Nat) ≠ 0; decide)) h1, prs h2⟩
    have chs : ∀ {z : Addr} {f : Fm} {c : Ch}, ChAt C H z f c → ChAt C H' z f c := fun {z f c} h => by
      obtain ⟨d, st, g, o, w, h⟩ := h
      refine ⟨d, st, g, o, w, e _ _ (nk h.at_ (by show (107 : Nat) ≠ 0; decide)) h.at_, sets h.set, e _ _ (nt h.ga) h.ga, e _ _ (nt h.off) h.off, e _ _ (nl h.win fun q0 => ?_) h.win⟩
      rw [List.getElem?_map] at q0
      cases hw : c.window[0]? with
      | none => rw [hw] at q0; cases q0
      | some n => rw [hw] at q0; cases q0
    refine ⟨dx, st, l, e _ _ (nk S.at_ (by show (104 : Nat) ≠ 0; decide)) S.at_, sets S.set, e _ _ (nl S.chs fun q0 => ?_) S.chs, chs S.a0, chs S.a1, S.ne, ?_⟩
    · have ep : b.c0 = a0.x := V.ref.inj (Option.some.inj q0)
      obtain ⟨u, e1, e2⟩ := S.a0.kind
      rw [ep, k0] at e1
      cases e1
      exact absurd e2 (by show (104 : Nat) ≠ 107; decide)
    · have lm := S.lim
      cases hL : b.L with
      | none =>
        rw [hL] at lm
        cases hl : t.limits with
        | none => trivial
        | some z => rw [hl] at lm; exact lm.elim
      | some p =>
        rw [hL] at lm
        cases hl : t.limits with
        | none => rw [hl] at lm; exact lm.elim
        | some z =>
          rw [hl] at lm
          obtain ⟨d, h⟩ := (show LiAt C H p z from lm)
          exact (show LiAt C H' p z from ⟨d, e _ _ (nk h (by show (106 : Nat) ≠ 0; decide)) h⟩)
  refine ⟨hl, by rw [List.length_append, List.length_append, r.len]; rfl, fun j b t hb ht => ?_, fun j k b d hjk hb hd z hz hz' => ?_⟩
  · by_cases hj : j < as.length
    · rw [List.getElem?_append_left hj] at hb
      rw [List.getElem?_append_left (by rw [← r.len]; exact hj)] at ht
      exact old j b t hb ht
    · have hj2 : j < (as ++ [a]).length := (List.getElem?_eq_some_iff.mp hb).1
      have ej : j = as.length := by rw [List.length_append] at hj2; simp at hj2; omega
      subst ej
      rw [List.getElem?_append_right (Nat.le_refl _), Nat.sub_self] at hb
      rw [r.len, List.getElem?_append_right (Nat.le_refl _), Nat.sub_self] at ht
      cases hb
      cases ht
      exact n
  · have side : ∀ (j : Nat) (b : SA), (as ++ [a])[j]? = some b → (j < as.length ∧ as[j]? = some b) ∨ (j = as.length ∧ b = a) := fun j b hb => by
      by_cases hj : j < as.length
      · rw [List.getElem?_append_left hj] at hb
        exact .inl ⟨hj, hb⟩
      · have hj2 : j < (as ++ [a]).length := (List.getElem?_eq_some_iff.mp hb).1
        have ej : j = as.length := by rw [List.length_append] at hj2; simp at hj2; omega
        subst ej
        rw [List.getElem?_append_right (Nat.le_refl _), Nat.sub_self] at hb
        cases hb
        exact .inr ⟨rfl, rfl⟩
    have has : ∀ (j : Nat) (b : SA), as[j]? = some b → ∀ z ∈ foot b, H z ≠ none := fun j b hb z hz q => by
      have hjs : j < as.length := (List.getElem?_eq_some_iff.mp hb).1
      obtain ⟨t, ht⟩ : ∃ t, ss[j]? = some t := ⟨ss[j]'(by rw [← r.len]; exact hjs), List.getElem?_eq_getElem _⟩
      obtain ⟨u, hu⟩ := (r.at_ j b t hb ht).inFoot z hz
      rw [hu] at q
      cases q
    rcases side j b hb with ⟨q1, q2⟩ | ⟨q1, q2⟩
    · rcases side k d hd with ⟨q3, q4⟩ | ⟨q3, q4⟩
      · exact r.apart j k b d hjk q2 q4 z hz hz'
      · subst q4
        exact has j b q2 z hz (fr z hz')
    · subst q2
      rcases side k d hd with ⟨q3, q4⟩ | ⟨q3, q4⟩
      · exact has k d q4 z hz' (fr z hz)
      · exact hjk (q1.trans q3.symm)
end Tw
set_option Elab.async false
set_option linter.all false
set_option maxRecDepth 100000
set_option maxHeartbeats 2000000
namespace Tw
open PySem PySem.Spec PyProof.Rows L2 L3
structure Txt (K : PySem.W.Frag) (mg : Str → Option Value) (C : Cs) : Prop where
  c_ALARM_HIGH : GC mg "ALARM_HIGH" (.int (2))
  c_ALARM_LOW : GC mg "ALARM_LOW" (.int (1))
  c_CALLS : GC mg "CALLS" (.ref C.ca)
  c_CORRECTION_BOUND : GC mg "CORRECTION_BOUND" (.int (1000000000000))
  c_CORRECTION_TOO_LARGE : GC mg "CORRECTION_TOO_LARGE" (.int (-6))
  c_COUNTS_DO_NOT_RISE : GC mg "COUNTS_DO_NOT_RISE" (.int (-4))
  c_COUNTS_IN_ALL : GC mg "COUNTS_IN_ALL" (.int (65536))
  c_DONE : GC mg "DONE" (.int (1))
  c_FAULT_OUT_OF_RANGE : GC mg "FAULT_OUT_OF_RANGE" (.int (1))
  c_FAULT_STUCK : GC mg "FAULT_STUCK" (.int (2))
  c_FAULT_UNLIKE : GC mg "FAULT_UNLIKE" (.int (3))
  c_FAULT_WRONG : GC mg "FAULT_WRONG" (.int (4))
  c_FORMS : GC mg "FORMS" (.ref C.fo)
  c_LAST_COUNT : GC mg "LAST_COUNT" (.int (65535))
  c_MOST_ALIKE : GC mg "MOST_ALIKE" (.int (1000))
  c_MOST_FED : GC mg "MOST_FED" (.int (100))
  c_MOST_SEARCHED : GC mg "MOST_SEARCHED" (.int (1000))
  c_MOST_SENSORS : GC mg "MOST_SENSORS" (.int (16))
  c_NO_ALARM : GC mg "NO_ALARM" (.int (0))
  c_NO_CALL : GC mg "NO_CALL" (.int (-100))
  c_NO_FAULT : GC mg "NO_FAULT" (.int (0))
  c_NO_LINE : GC mg "NO_LINE" (.int (-7))
  c_OUT_OF_RANGE : GC mg "OUT_OF_RANGE" (.int (-1))
  c_POINTS_DO_NOT_RISE : GC mg "POINTS_DO_NOT_RISE" (.int (-3))
  c_SEARCH_BOUND : GC mg "SEARCH_BOUND" (.int (1000000000000))
  c_SIDE_GREATER : GC mg "SIDE_GREATER" (.int (1))
  c_SIDE_LESSER : GC mg "SIDE_LESSER" (.int (0))
  c_TOO_MANY_SENSORS : GC mg "TOO_MANY_SENSORS" (.int (-2))
  c_VALUES_DO_NOT_RISE : GC mg "VALUES_DO_NOT_RISE" (.int (-5))
  c_VALUE_BOUND : GC mg "VALUE_BOUND" (.int (1000000000))
  b_abs : mg "abs" = none
  b_len : mg "len" = none
  b_max : mg "max" = none
  b_min : mg "min" = none
  b_ord : mg "ord" = none
  b_range : mg "range" = none
  b_sorted : mg "sorted" = none
  b_str : mg "str" = none
  b_sum : mg "sum" = none
  cl_ch : Cls K C.ch
  n_ch_settings : NoAttr K C.ch "settings"
  n_ch_gain : NoAttr K C.ch "gain"
  n_ch_offset : NoAttr K C.ch "offset"
  n_ch_window : NoAttr K C.ch "window"
  n_ch_alike : NoAttr K C.ch "alike"
  n_ch_out : NoAttr K C.ch "out"
  n_ch_fault : NoAttr K C.ch "fault"
  cl_li : Cls K C.li
  n_li_low : NoAttr K C.li "low"
  n_li_high : NoAttr K C.li "high"
  n_li_back : NoAttr K C.li "back"
  n_li_below : NoAttr K C.li "below"
  n_li_above : NoAttr K C.li "above"
  n_li_alarm : NoAttr K C.li "alarm"
  cl_se : Cls K C.se
  n_se_settings : NoAttr K C.se "settings"
  n_se_channels : NoAttr K C.se "channels"
  n_se_unlike : NoAttr K C.se "unlike"
  n_se_limits : NoAttr K C.se "limits"
  cl_st : Cls K C.st
  n_st_width : NoAttr K C.st "width"
  n_st_tolerance : NoAttr K C.st "tolerance"
  n_st_times : NoAttr K C.st "times"
  n_st_stuck : NoAttr K C.st "stuck"
  n_st_side : NoAttr K C.st "side"
  n_st_lo : NoAttr K C.st "lo"
  n_st_hi : NoAttr K C.st "hi"
  n_st_points : NoAttr K C.st "points"
  formsT : TupK K C.fo (C.fs.map V.ref)
  formsLen : C.fs.length = 17
  formT : ∀ (i : Nat) (p : Addr), C.fs[i]? = some p → TupK K p [.int ((forms.getD i (0, 0)).1 : Int), .int ((forms.getD i (0, 0)).2 : Int)]
  callsT : TupK K C.ca (C.cs.map V.ref)
  callsLen : C.cs.length = 17
abbrev s_middle_one : Stmt := (top 1)
theorem sc_middle_one : FnScope ["numbers", "rising"] ["numbers"] (defScope s_middle_one) := ⟨rfl, rfl, rfl, by decide +kernel, rfl, by decide +kernel, by decide +kernel⟩
abbrev s_is_count : Stmt := (top 5)
theorem sc_is_count : FnScope ["number"] ["number"] (defScope s_is_count) := ⟨rfl, rfl, rfl, by decide +kernel, rfl, by decide +kernel, by decide +kernel⟩
abbrev s_is_value : Stmt := (top 6)
theorem sc_is_value : FnScope ["number"] ["number"] (defScope s_is_value) := ⟨rfl, rfl, rfl, by decide +kernel, rfl, by decide +kernel, by decide +kernel⟩
abbrev s_are_counts : Stmt := (top 7)
theorem sc_are_counts : FnScope ["pairs", "pair"] ["pairs"] (defScope s_are_counts) := ⟨rfl, rfl, rfl, by decide +kernel, rfl, by decide +kernel, by decide +kernel⟩
abbrev s_are_points : Stmt := (top 8)
theorem sc_are_points : FnScope ["pairs", "pair"] ["pairs"] (defScope s_are_points) := ⟨rfl, rfl, rfl, by decide +kernel, rfl, by decide +kernel, by decide +kernel⟩
abbrev s_are_values : Stmt := (top 9)
theorem sc_are_values : FnScope ["numbers", "number"] ["numbers"] (defScope s_are_values) := ⟨rfl, rfl, rfl, by decide +kernel, rfl, by decide +kernel, by decide +kernel⟩
abbrev s_are_settings : Stmt := (top 10)
theorem sc_are_settings : FnScope ["given"] ["given"] (defScope s_are_settings) := ⟨rfl, rfl, rfl, by decide +kernel, rfl, by decide +kernel, by decide +kernel⟩
abbrev s_are_limits : Stmt := (top 11)
theorem sc_are_limits : FnScope ["low", "high", "back"] ["low", "high", "back"] (defScope s_are_limits) := ⟨rfl, rfl, rfl, by decide +kernel, rfl, by decide +kernel, by decide +kernel⟩
abbrev s_has_sensor : Stmt := (top 12)
theorem sc_has_sensor : FnScope ["sensors", "s"] ["sensors", "s"] (defScope s_has_sensor) := ⟨rfl, rfl, rfl, by decide +kernel, rfl, by decide +kernel, by decide +kernel⟩
abbrev s_has_channel : Stmt := (top 13)
theorem sc_has_channel : FnScope ["sensors", "s", "ch"] ["sensors", "s", "ch"] (defScope s_has_channel) := ⟨rfl, rfl, rfl, by decide +kernel, rfl, by decide +kernel, by decide +kernel⟩
abbrev s_greatest_divisor : Stmt := (top 15)
theorem sc_greatest_divisor : FnScope ["a", "b", "rest"] ["a", "b"] (defScope s_greatest_divisor) := ⟨rfl, rfl, rfl, by decide +kernel, rfl, by decide +kernel, by decide +kernel⟩
abbrev s_ratio : Stmt := (top 16)
theorem sc_ratio : FnScope ["top", "bottom", "shared"] ["top", "bottom"] (defScope s_ratio) := ⟨rfl, rfl, rfl, by decide +kernel, rfl, by decide +kernel, by decide +kernel⟩
abbrev s_whole : Stmt := (top 17)
theorem sc_whole : FnScope ["number"] ["number"] (defScope s_whole) := ⟨rfl, rfl, rfl, by decide +kernel, rfl, by decide +kernel, by decide +kernel⟩
abbrev s_added : Stmt := (top 18)
theorem sc_added : FnScope ["a", "b"] ["a", "b"] (defScope s_added) := ⟨rfl, rfl, rfl, by decide +kernel, rfl, by decide +kernel, by decide +kernel⟩
abbrev s_subtracted : Stmt := (top 19)
theorem sc_subtracted : FnScope ["a", "b"] ["a", "b"] (defScope s_subtracted) := ⟨rfl, rfl, rfl, by decide +kernel, rfl, by decide +kernel, by decide +kernel⟩
abbrev s_multiplied : Stmt := (top 20)
theorem sc_multiplied : FnScope ["a", "b"] ["a", "b"] (defScope s_multiplied) := ⟨rfl, rfl, rfl, by decide +kernel, rfl, by decide +kernel, by decide +kernel⟩
abbrev s_divided : Stmt := (top 21)
theorem sc_divided : FnScope ["a", "b"] ["a", "b"] (defScope s_divided) := ⟨rfl, rfl, rfl, by decide +kernel, rfl, by decide +kernel, by decide +kernel⟩
abbrev s_is_below : Stmt := (top 22)
theorem sc_is_below : FnScope ["a", "b"] ["a", "b"] (defScope s_is_below) := ⟨rfl, rfl, rfl, by decide +kernel, rfl, by decide +kernel, by decide +kernel⟩
abbrev s_rounded_down : Stmt := (top 23)
theorem sc_rounded_down : FnScope ["a"] ["a"] (defScope s_rounded_down) := ⟨rfl, rfl, rfl, by decide +kernel, rfl, by decide +kernel, by decide +kernel⟩
abbrev s_ratio_text : Stmt := (top 24)
theorem sc_ratio_text : FnScope ["a"] ["a"] (defScope s_ratio_text) := ⟨rfl, rfl, rfl, by decide +kernel, rfl, by decide +kernel, by decide +kernel⟩
abbrev s_points_rise : Stmt := (top 34)
theorem sc_points_rise : FnScope ["points", "k"] ["points"] (defScope s_points_rise) := ⟨rfl, rfl, rfl, by decide +kernel, rfl, by decide +kernel, by decide +kernel⟩
abbrev s_value_between : Stmt := (top 35)
theorem sc_value_between : FnScope ["before", "behind", "count", "span", "rise"] ["before", "behind", "count"] (defScope s_value_between) := ⟨rfl, rfl, rfl, by decide +kernel, rfl, by decide +kernel, by decide +kernel⟩
abbrev s_table_value : Stmt := (top 36)
theorem sc_table_value : FnScope ["points", "count", "k"] ["points", "count"] (defScope s_table_value) := ⟨rfl, rfl, rfl, by decide +kernel, rfl, by decide +kernel, by decide +kernel⟩
abbrev s_is_too_large : Stmt := (top 45)
theorem sc_is_too_large : FnScope ["fraction"] ["fraction"] (defScope s_is_too_large) := ⟨rfl, rfl, rfl, by decide +kernel, rfl, by decide +kernel, by decide +kernel⟩
abbrev s_Channel_init : Stmt := (inClass (top 46) 0)
theorem sc_Channel_init : FnScope ["self", "settings"] ["self", "settings"] (defScope s_Channel_init) := ⟨rfl, rfl, rfl, by decide +kernel, rfl, by decide +kernel, by decide +kernel⟩
abbrev s_Channel_value_by : Stmt := (inClass (top 46) 1)
theorem sc_Channel_value_by : FnScope ["self", "gain", "offset", "count"] ["self", "gain", "offset", "count"] (defScope s_Channel_value_by) := ⟨rfl, rfl, rfl, by decide +kernel, rfl, by decide +kernel, by decide +kernel⟩
abbrev s_Channel_exact_value : Stmt := (inClass (top 46) 2)
theorem sc_Channel_exact_value : FnScope ["self", "count"] ["self", "count"] (defScope s_Channel_exact_value) := ⟨rfl, rfl, rfl, by decide +kernel, rfl, by decide +kernel, by decide +kernel⟩
abbrev s_Channel_whole_value : Stmt := (inClass (top 46) 3)
theorem sc_Channel_whole_value : FnScope ["self", "count"] ["self", "count"] (defScope s_Channel_whole_value) := ⟨rfl, rfl, rfl, by decide +kernel, rfl, by decide +kernel, by decide +kernel⟩
abbrev s_Channel_tells : Stmt := (inClass (top 46) 4)
theorem sc_Channel_tells : FnScope ["self"] ["self"] (defScope s_Channel_tells) := ⟨rfl, rfl, rfl, by decide +kernel, rfl, by decide +kernel, by decide +kernel⟩
abbrev s_Channel_told_value : Stmt := (inClass (top 46) 5)
theorem sc_Channel_told_value : FnScope ["self"] ["self"] (defScope s_Channel_told_value) := ⟨rfl, rfl, rfl, by decide +kernel, rfl, by decide +kernel, by decide +kernel⟩
abbrev s_Channel_is_trusted : Stmt := (inClass (top 46) 6)
theorem sc_Channel_is_trusted : FnScope ["self"] ["self"] (defScope s_Channel_is_trusted) := ⟨rfl, rfl, rfl, by decide +kernel, rfl, by decide +kernel, by decide +kernel⟩
abbrev s_Channel_latch : Stmt := (inClass (top 46) 7)
theorem sc_Channel_latch : FnScope ["self", "fault"] ["self", "fault"] (defScope s_Channel_latch) := ⟨rfl, rfl, rfl, by decide +kernel, rfl, by decide +kernel, by decide +kernel⟩
abbrev s_Channel_take : Stmt := (inClass (top 46) 8)
theorem sc_Channel_take : FnScope ["self", "count"] ["self", "count"] (defScope s_Channel_take) := ⟨rfl, rfl, rfl, by decide +kernel, rfl, by decide +kernel, by decide +kernel⟩
abbrev s_Channel_take_out_of_range : Stmt := (inClass (top 46) 9)
theorem sc_Channel_take_out_of_range : FnScope ["self"] ["self"] (defScope s_Channel_take_out_of_range) := ⟨rfl, rfl, rfl, by decide +kernel, rfl, by decide +kernel, by decide +kernel⟩
abbrev s_Channel_take_in_range : Stmt := (inClass (top 46) 10)
theorem sc_Channel_take_in_range : FnScope ["self", "count", "kept"] ["self", "count"] (defScope s_Channel_take_in_range) := ⟨rfl, rfl, rfl, by decide +kernel, rfl, by decide +kernel, by decide +kernel⟩
abbrev s_Channel_is_stuck : Stmt := (inClass (top 46) 11)
theorem sc_Channel_is_stuck : FnScope ["self"] ["self"] (defScope s_Channel_is_stuck) := ⟨rfl, rfl, rfl, by decide +kernel, rfl, by decide +kernel, by decide +kernel⟩
abbrev s_Channel_is_good : Stmt := (inClass (top 46) 12)
theorem sc_Channel_is_good : FnScope ["self", "known"] ["self", "known"] (defScope s_Channel_is_good) := ⟨rfl, rfl, rfl, by decide +kernel, rfl, by decide +kernel, by decide +kernel⟩
abbrev s_Channel_judge : Stmt := (inClass (top 46) 13)
theorem sc_Channel_judge : FnScope ["self", "known"] ["self", "known"] (defScope s_Channel_judge) := ⟨rfl, rfl, rfl, by decide +kernel, rfl, by decide +kernel, by decide +kernel⟩
abbrev s_Channel_forget : Stmt := (inClass (top 46) 14)
theorem sc_Channel_forget : FnScope ["self"] ["self"] (defScope s_Channel_forget) := ⟨rfl, rfl, rfl, by decide +kernel, rfl, by decide +kernel, by decide +kernel⟩
abbrev s_Channel_correct : Stmt := (inClass (top 46) 15)
theorem sc_Channel_correct : FnScope ["self", "c1", "v1", "c2", "v2", "x1", "x2", "factor", "gain", "offset"] ["self", "c1", "v1", "c2", "v2"] (defScope s_Channel_correct) := ⟨rfl, rfl, rfl, by decide +kernel, rfl, by decide +kernel, by decide +kernel⟩
abbrev s_Channel_can_have : Stmt := (inClass (top 46) 16)
theorem sc_Channel_can_have : FnScope ["self", "gain", "offset", "count"] ["self", "gain", "offset"] (defScope s_Channel_can_have) := ⟨rfl, rfl, rfl, by decide +kernel, rfl, by decide +kernel, by decide +kernel⟩
abbrev s_Channel_least_reaching : Stmt := (inClass (top 46) 17)
theorem sc_Channel_least_reaching : FnScope ["self", "first", "beyond", "wanted", "low", "high", "half"] ["self", "first", "beyond", "wanted"] (defScope s_Channel_least_reaching) := ⟨rfl, rfl, rfl, by decide +kernel, rfl, by decide +kernel, by decide +kernel⟩
abbrev s_has_form : Stmt := (top 49)
theorem sc_has_form : FnScope ["numbers", "form", "left"] ["numbers"] (defScope s_has_form) := ⟨rfl, rfl, rfl, by decide +kernel, rfl, by decide +kernel, by decide +kernel⟩
abbrev s_plain_numbers : Stmt := (top 50)
theorem sc_plain_numbers : FnScope ["numbers"] ["numbers"] (defScope s_plain_numbers) := ⟨rfl, rfl, rfl, by decide +kernel, rfl, by decide +kernel, by decide +kernel⟩
abbrev s_listed_things : Stmt := (top 51)
theorem sc_listed_things : FnScope ["numbers", "form", "listed", "k"] ["numbers"] (defScope s_listed_things) := ⟨rfl, rfl, rfl, by decide +kernel, rfl, by decide +kernel, by decide +kernel⟩
abbrev s_fitted_line : Stmt := (top 53)
theorem sc_fitted_line : FnScope ["points", "k", "counts", "values", "squares", "products", "spread", "slope", "rest", "point"] ["points"] (defScope s_fitted_line) := ⟨rfl, rfl, rfl, by decide +kernel, rfl, by decide +kernel, by decide +kernel⟩
abbrev s_Limits_init : Stmt := (inClass (top 58) 0)
theorem sc_Limits_init : FnScope ["self", "low", "high", "back"] ["self", "low", "high", "back"] (defScope s_Limits_init) := ⟨rfl, rfl, rfl, by decide +kernel, rfl, by decide +kernel, by decide +kernel⟩
abbrev s_Limits_watch : Stmt := (inClass (top 58) 1)
theorem sc_Limits_watch : FnScope ["self", "reading", "times"] ["self", "reading", "times"] (defScope s_Limits_watch) := ⟨rfl, rfl, rfl, by decide +kernel, rfl, by decide +kernel, by decide +kernel⟩
abbrev s_Limits_alarm_by : Stmt := (inClass (top 58) 2)
theorem sc_Limits_alarm_by : FnScope ["self", "reading", "times"] ["self", "reading", "times"] (defScope s_Limits_alarm_by) := ⟨rfl, rfl, rfl, by decide +kernel, rfl, by decide +kernel, by decide +kernel⟩
abbrev s_Sensor_init : Stmt := (inClass (top 63) 0)
theorem sc_Sensor_init : FnScope ["self", "settings"] ["self", "settings"] (defScope s_Sensor_init) := ⟨rfl, rfl, rfl, by decide +kernel, rfl, by decide +kernel, by decide +kernel⟩
abbrev s_Sensor_set_limits : Stmt := (inClass (top 63) 1)
theorem sc_Sensor_set_limits : FnScope ["self", "low", "high", "back"] ["self", "low", "high", "back"] (defScope s_Sensor_set_limits) := ⟨rfl, rfl, rfl, by decide +kernel, rfl, by decide +kernel, by decide +kernel⟩
abbrev s_Sensor_alarm_now : Stmt := (inClass (top 63) 2)
theorem sc_Sensor_alarm_now : FnScope ["self"] ["self"] (defScope s_Sensor_alarm_now) := ⟨rfl, rfl, rfl, by decide +kernel, rfl, by decide +kernel, by decide +kernel⟩
abbrev s_Sensor_trusted_values : Stmt := (inClass (top 63) 3)
theorem sc_Sensor_trusted_values : FnScope ["self", "channel"] ["self"] (defScope s_Sensor_trusted_values) := ⟨rfl, rfl, rfl, by decide +kernel, rfl, by decide +kernel, by decide +kernel⟩
abbrev s_Sensor_reading_now : Stmt := (inClass (top 63) 4)
theorem sc_Sensor_reading_now : FnScope ["self", "told"] ["self"] (defScope s_Sensor_reading_now) := ⟨rfl, rfl, rfl, by decide +kernel, rfl, by decide +kernel, by decide +kernel⟩
abbrev s_Sensor_gap_now : Stmt := (inClass (top 63) 5)
theorem sc_Sensor_gap_now : FnScope ["self", "told"] ["self"] (defScope s_Sensor_gap_now) := ⟨rfl, rfl, rfl, by decide +kernel, rfl, by decide +kernel, by decide +kernel⟩
abbrev s_Sensor_sample : Stmt := (inClass (top 63) 6)
theorem sc_Sensor_sample : FnScope ["self", "m", "n"] ["self", "m", "n"] (defScope s_Sensor_sample) := ⟨rfl, rfl, rfl, by decide +kernel, rfl, by decide +kernel, by decide +kernel⟩
abbrev s_Sensor_compare_channels : Stmt := (inClass (top 63) 7)
theorem sc_Sensor_compare_channels : FnScope ["self", "gap"] ["self"] (defScope s_Sensor_compare_channels) := ⟨rfl, rfl, rfl, by decide +kernel, rfl, by decide +kernel, by decide +kernel⟩
abbrev s_Sensor_latch_both : Stmt := (inClass (top 63) 8)
theorem sc_Sensor_latch_both : FnScope ["self", "fault", "channel"] ["self", "fault"] (defScope s_Sensor_latch_both) := ⟨rfl, rfl, rfl, by decide +kernel, rfl, by decide +kernel, by decide +kernel⟩
abbrev s_Sensor_watch_limits : Stmt := (inClass (top 63) 9)
theorem sc_Sensor_watch_limits : FnScope ["self", "reading"] ["self"] (defScope s_Sensor_watch_limits) := ⟨rfl, rfl, rfl, by decide +kernel, rfl, by decide +kernel, by decide +kernel⟩
abbrev s_Sensor_judge_channels : Stmt := (inClass (top 63) 10)
theorem sc_Sensor_judge_channels : FnScope ["self", "known", "channel"] ["self", "known"] (defScope s_Sensor_judge_channels) := ⟨rfl, rfl, rfl, by decide +kernel, rfl, by decide +kernel, by decide +kernel⟩
abbrev s_Sensor_forget_counts : Stmt := (inClass (top 63) 11)
theorem sc_Sensor_forget_counts : FnScope ["self", "channel"] ["self"] (defScope s_Sensor_forget_counts) := ⟨rfl, rfl, rfl, by decide +kernel, rfl, by decide +kernel, by decide +kernel⟩
abbrev s_Settings_init : Stmt := (inClass (top 65) 0)
theorem sc_Settings_init : FnScope ["self", "given", "points"] ["self", "given", "points"] (defScope s_Settings_init) := ⟨rfl, rfl, rfl, by decide +kernel, rfl, by decide +kernel, by decide +kernel⟩
abbrev s_Settings_has_in_range : Stmt := (inClass (top 65) 1)
theorem sc_Settings_has_in_range : FnScope ["self", "count"] ["self", "count"] (defScope s_Settings_has_in_range) := ⟨rfl, rfl, rfl, by decide +kernel, rfl, by decide +kernel, by decide +kernel⟩
abbrev s_text_numbers : Stmt := (top 72)
theorem sc_text_numbers : FnScope ["text", "sign"] ["text"] (defScope s_text_numbers) := ⟨rfl, rfl, rfl, by decide +kernel, rfl, by decide +kernel, by decide +kernel⟩
abbrev s_number_if_any : Stmt := (top 73)
theorem sc_number_if_any : FnScope ["number"] ["number"] (defScope s_number_if_any) := ⟨rfl, rfl, rfl, by decide +kernel, rfl, by decide +kernel, by decide +kernel⟩
abbrev s_sensor_answer : Stmt := (top 74)
theorem sc_sensor_answer : FnScope ["sensor", "faults", "channel"] ["sensor"] (defScope s_sensor_answer) := ⟨rfl, rfl, rfl, by decide +kernel, rfl, by decide +kernel, by decide +kernel⟩
abbrev s_call_sensor : Stmt := (top 75)
theorem sc_call_sensor : FnScope ["sensors", "given", "pairs"] ["sensors", "given", "pairs"] (defScope s_call_sensor) := ⟨rfl, rfl, rfl, by decide +kernel, rfl, by decide +kernel, by decide +kernel⟩
abbrev s_call_limits : Stmt := (top 76)
theorem sc_call_limits : FnScope ["sensors", "given", "listed"] ["sensors", "given", "listed"] (defScope s_call_limits) := ⟨rfl, rfl, rfl, by decide +kernel, rfl, by decide +kernel, by decide +kernel⟩
abbrev s_call_feed : Stmt := (top 77)
theorem sc_call_feed : FnScope ["sensors", "given", "listed"] ["sensors", "given", "listed"] (defScope s_call_feed) := ⟨rfl, rfl, rfl, by decide +kernel, rfl, by decide +kernel, by decide +kernel⟩
abbrev s_call_feeds : Stmt := (top 78)
theorem sc_call_feeds : FnScope ["sensors", "given", "pairs", "sensor", "pair"] ["sensors", "given", "pairs"] (defScope s_call_feeds) := ⟨rfl, rfl, rfl, by decide +kernel, rfl, by decide +kernel, by decide +kernel⟩
abbrev s_call_reading : Stmt := (top 79)
theorem sc_call_reading : FnScope ["sensors", "given", "listed"] ["sensors", "given", "listed"] (defScope s_call_reading) := ⟨rfl, rfl, rfl, by decide +kernel, rfl, by decide +kernel, by decide +kernel⟩
abbrev s_call_exact : Stmt := (top 80)
theorem sc_call_exact : FnScope ["sensors", "given", "listed", "channel"] ["sensors", "given", "listed"] (defScope s_call_exact) := ⟨rfl, rfl, rfl, by decide +kernel, rfl, by decide +kernel, by decide +kernel⟩
abbrev s_call_value : Stmt := (top 81)
theorem sc_call_value : FnScope ["sensors", "given", "listed", "channel"] ["sensors", "given", "listed"] (defScope s_call_value) := ⟨rfl, rfl, rfl, by decide +kernel, rfl, by decide +kernel, by decide +kernel⟩
abbrev s_call_correct : Stmt := (top 82)
theorem sc_call_correct : FnScope ["sensors", "given", "listed", "known", "channel"] ["sensors", "given", "listed"] (defScope s_call_correct) := ⟨rfl, rfl, rfl, by decide +kernel, rfl, by decide +kernel, by decide +kernel⟩
abbrev s_call_drift : Stmt := (top 83)
theorem sc_call_drift : FnScope ["sensors", "given", "listed", "channel"] ["sensors", "given", "listed"] (defScope s_call_drift) := ⟨rfl, rfl, rfl, by decide +kernel, rfl, by decide +kernel, by decide +kernel⟩
abbrev s_call_reference : Stmt := (top 84)
theorem sc_call_reference : FnScope ["sensors", "given", "listed", "sensor", "first", "second"] ["sensors", "given", "listed"] (defScope s_call_reference) := ⟨rfl, rfl, rfl, by decide +kernel, rfl, by decide +kernel, by decide +kernel⟩
abbrev s_can_search : Stmt := (top 85)
theorem sc_can_search : FnScope ["n", "k", "v"] ["n", "k", "v"] (defScope s_can_search) := ⟨rfl, rfl, rfl, by decide +kernel, rfl, by decide +kernel, by decide +kernel⟩
abbrev s_call_least : Stmt := (top 86)
theorem sc_call_least : FnScope ["sensors", "given", "listed", "channel", "beyond", "found"] ["sensors", "given", "listed"] (defScope s_call_least) := ⟨rfl, rfl, rfl, by decide +kernel, rfl, by decide +kernel, by decide +kernel⟩
abbrev s_call_middle : Stmt := (top 87)
theorem sc_call_middle : FnScope ["sensors", "given", "numbers"] ["sensors", "given", "numbers"] (defScope s_call_middle) := ⟨rfl, rfl, rfl, by decide +kernel, rfl, by decide +kernel, by decide +kernel⟩
abbrev s_call_line : Stmt := (top 88)
theorem sc_call_line : FnScope ["sensors", "given", "pairs", "fitted"] ["sensors", "given", "pairs"] (defScope s_call_line) := ⟨rfl, rfl, rfl, by decide +kernel, rfl, by decide +kernel, by decide +kernel⟩
abbrev s_channel_state : Stmt := (top 89)
theorem sc_channel_state : FnScope ["channel"] ["channel"] (defScope s_channel_state) := ⟨rfl, rfl, rfl, by decide +kernel, rfl, by decide +kernel, by decide +kernel⟩
abbrev s_limits_state : Stmt := (top 90)
theorem sc_limits_state : FnScope ["limits"] ["limits"] (defScope s_limits_state) := ⟨rfl, rfl, rfl, by decide +kernel, rfl, by decide +kernel, by decide +kernel⟩
abbrev s_call_state : Stmt := (top 91)
theorem sc_call_state : FnScope ["sensors", "given", "listed", "sensor", "states"] ["sensors", "given", "listed"] (defScope s_call_state) := ⟨rfl, rfl, rfl, by decide +kernel, rfl, by decide +kernel, by decide +kernel⟩
abbrev s_call_clear : Stmt := (top 92)
theorem sc_call_clear : FnScope ["sensors", "given", "listed"] ["sensors", "given", "listed"] (defScope s_call_clear) := ⟨rfl, rfl, rfl, by decide +kernel, rfl, by decide +kernel, by decide +kernel⟩
abbrev s_call_count : Stmt := (top 93)
theorem sc_call_count : FnScope ["sensors", "given", "listed"] ["sensors", "given", "listed"] (defScope s_call_count) := ⟨rfl, rfl, rfl, by decide +kernel, rfl, by decide +kernel, by decide +kernel⟩
abbrev s_call_gap : Stmt := (top 94)
theorem sc_call_gap : FnScope ["sensors", "given", "listed"] ["sensors", "given", "listed"] (defScope s_call_gap) := ⟨rfl, rfl, rfl, by decide +kernel, rfl, by decide +kernel, by decide +kernel⟩
abbrev s_answer_call : Stmt := (top 96)
theorem sc_answer_call : FnScope ["sensors", "numbers"] ["sensors", "numbers"] (defScope s_answer_call) := ⟨rfl, rfl, rfl, by decide +kernel, rfl, by decide +kernel, by decide +kernel⟩
abbrev s_answers : Stmt := (top 98)
theorem sc_answers : FnScope ["calls", "sensors", "told", "at", "start", "answer"] ["calls"] (defScope s_answers) := ⟨rfl, rfl, rfl, by decide +kernel, rfl, by decide +kernel, by decide +kernel⟩
end Tw
set_option Elab.async false
set_option linter.all false
set_option maxRecDepth 100000
set_option maxHeartbeats 2000000
namespace Tw
open PySem PySem.Spec PyProof.Rows L2 L3
def optV : Option Int → V
  | none => .non
  | some v => .int v
def sp_middle_one (C : Cs) : Sp := mkSp 1 fun vs H Q => ∃ (p : Addr) (ns : List Int) (m : Int), vs = [.ref p] ∧ H p = some (.lst (ns.map V.int)) ∧ ns.length < 64 ∧ Vbdlac.middle ns = some m ∧ ∀ H', Same H H' → Q (.int m) H'
def sp_is_count (C : Cs) : Sp := mkSp 1 fun vs H Q => ∃ n : Int, vs = [.int n] ∧ Q (.bl (Vbdlac.isCount n)) H
def sp_is_value (C : Cs) : Sp := mkSp 1 fun vs H Q => ∃ n : Int, vs = [.int n] ∧ Q (.bl (Vbdlac.isValue n)) H
def sp_are_counts (C : Cs) : Sp := mkSp 1 fun vs H Q => ∃ (a : Addr) (l : List (Int × Int)), vs = [.ref a] ∧ PairsAt H a l ∧ Q (.bl (l.all fun p => Vbdlac.isCount p.1 && Vbdlac.isCount p.2)) H
def sp_are_points (C : Cs) : Sp := mkSp 1 fun vs H Q => ∃ (a : Addr) (l : List (Int × Int)), vs = [.ref a] ∧ PairsAt H a l ∧ Q (.bl (l.all fun p => Vbdlac.isCount p.1 && Vbdlac.isValue p.2)) H
def sp_are_values (C : Cs) : Sp := mkSp 1 fun vs H Q => ∃ (a : Addr) (ns : List Int), vs = [.ref a] ∧ H a = some (.lst (ns.map V.int)) ∧ Q (.bl (ns.all Vbdlac.isValue)) H
def okset (w t m z d lo hi : Int) : Bool := (w == 1 || (w == 3 || w == 5)) && (Vbdlac.within t 0 Vbdlac.MOST && (Vbdlac.within m 1 100 && ((z == 0 || Vbdlac.within z 2 1000) && (Vbdlac.within d 0 2 && (Vbdlac.isCount lo && Vbdlac.within hi lo Vbdlac.TOP)))))
def sp_are_settings (C : Cs) : Sp := mkSp 1 fun vs H Q => ∃ (g : Addr) (w t m z d lo hi : Int), vs = [.ref g] ∧ H g = some (.lst [.int w, .int t, .int m, .int z, .int d, .int lo, .int hi]) ∧ ∀ H', Same H H' → Q (.bl (okset w t m z d lo hi)) H'
def sp_are_limits (C : Cs) : Sp := mkSp 3 fun vs H Q => ∃ a b c : Int, vs = [.int a, .int b, .int c] ∧ Q (.bl (Vbdlac.isValue a && (Vbdlac.within b a Vbdlac.MOST && Vbdlac.within c 0 (b - a)))) H
def hasS (n : Nat) (s : Int) : Bool := decide (0 ≤ s) && decide (s < (n : Int))
def sp_has_sensor (C : Cs) : Sp := mkSp 2 fun vs H Q => ∃ (l : Addr) (xs : List V) (s : Int), vs = [.ref l, .int s] ∧ H l = some (.lst xs) ∧ Q (.bl (hasS xs.length s)) H
def sp_has_channel (C : Cs) : Sp := mkSp 3 fun vs H Q => ∃ (l : Addr) (xs : List V) (s c : Int), vs = [.ref l, .int s, .int c] ∧ H l = some (.lst xs) ∧ Q (.bl (hasS xs.length s && Vbdlac.within c 0 1)) H
def sp_greatest_divisor (C : Cs) : Sp := mkSp 2 fun vs H Q => ∃ a b : Nat, vs = [.int (a : Int), .int (b : Int)] ∧ Q (.int ((Nat.gcd a b : Nat) : Int)) H
def sp_ratio (C : Cs) : Sp := mkSp 2 fun vs H Q => ∃ (n : Int) (d : Nat), vs = [.int n, .int (d : Int)] ∧ 0 < d ∧ d < 2 ^ 3000 ∧ ∀ p H', Same H H' → FrAt H' p (Vbdlac.q n d) → Q (.ref p) H'
def sp_whole (C : Cs) : Sp := mkSp 1 fun vs H Q => ∃ z : Int, vs = [.int z] ∧ ∀ p H', Same H H' → FrAt H' p (Vbdlac.whole z) → Q (.ref p) H'
def spQ2 (g : Fq → Fq → Fq) (pre : Fq → Prop) : Sp := mkSp 2 fun vs H Q => ∃ (pa pb : Addr) (a b : Fq), vs = [.ref pa, .ref pb] ∧ FrAt H pa a ∧ FrAt H pb b ∧ QB 1000 a ∧ QB 1000 b ∧ pre b ∧ ∀ p H', Same H H' → FrAt H' p (g a b) → Q (.ref p) H'
def sp_added (C : Cs) : Sp := spQ2 Vbdlac.addQ fun _ => True
def sp_subtracted (C : Cs) : Sp := spQ2 Vbdlac.subQ fun _ => True
def sp_multiplied (C : Cs) : Sp := spQ2 Vbdlac.mulQ fun _ => True
def sp_divided (C : Cs) : Sp := spQ2 Vbdlac.divQ fun b => 0 < b.num
def sp_is_below (C : Cs) : Sp := mkSp 2 fun vs H Q => ∃ (pa pb : Addr) (a b : Fq), vs = [.ref pa, .ref pb] ∧ FrAt H pa a ∧ FrAt H pb b ∧ QB 1000 a ∧ QB 1000 b ∧ Q (.bl (Vbdlac.lessQ a b)) H
def sp_rounded_down (C : Cs) : Sp := mkSp 1 fun vs H Q => ∃ (p : Addr) (a : Fq), vs = [.ref p] ∧ FrAt H p a ∧ QB 1000 a ∧ Q (.int (Vbdlac.floorQ a)) H
def txtQ (a : Fq) : Str := if a.den = 1 then Str.ofString (toString a.num) else Str.ofString (toString a.num) ++ Str.ofString "/" ++ Str.ofString (toString (a.den : Int))
def sp_ratio_text (C : Cs) : Sp := mkSp 1 fun vs H Q => ∃ (p : Addr) (a : Fq), vs = [.ref p] ∧ FrAt H p a ∧ QB 1000 a ∧ Q (.str (txtQ a)) H
def sp_points_rise (C : Cs) : Sp := mkSp 1 fun vs H Q => ∃ (a : Addr) (l : List (Int × Int)), vs = [.ref a] ∧ PairsAt H a l ∧ 0 < l.length ∧ l.length ≤ 1000 ∧ Q (.bl (Vbdlac.rising l)) H
def sp_value_between (C : Cs) : Sp := mkSp 3 fun vs H Q => ∃ (pa pb : Addr) (a b : Int × Int) (c : Int), vs = [.ref pa, .ref pb, .int c] ∧ H pa = some (.tup [.int a.1, .int a.2]) ∧ H pb = some (.tup [.int b.1, .int b.2]) ∧ a.1 < b.1 ∧ (Cnt a.1 ∧ Cnt b.1 ∧ Cnt c) ∧ (-1000000000 ≤ a.2 ∧ a.2 ≤ 1000000000) ∧ (-1000000000 ≤ b.2 ∧ b.2 ≤ 1000000000) ∧ ∀ p H', Same H H' → FrAt H' p (btw a b c) → Q (.ref p) H'
def sp_table_value (C : Cs) : Sp := mkSp 2 fun vs H Q => ∃ (pl : Addr) (l : List (Int × Int)) (c : Int), vs = [.ref pl, .int c] ∧ PairsAt H pl l ∧ TblOk l ∧ Cnt c ∧ ∀ p H', Same H H' → FrAt H' p (Vbdlac.interp l c) → Q (.ref p) H'
def sp_is_too_large (C : Cs) : Sp := mkSp 1 fun vs H Q => ∃ (p : Addr) (a : Fq), vs = [.ref p] ∧ FrAt H p a ∧ Q (.bl (!Vbdlac.fine a)) H
def sp_Channel_init (C : Cs) : Sp := mkSp 2 fun vs H Q => ∃ (c dx st : Addr) (f : Fm), vs = [.ref c, .ref st] ∧ H c = some (.ins C.ch dx []) ∧ SetAt C H st f ∧ ∀ H', (∃ g o w, ChC C H' c dx st g o w f Vbdlac.newChannel ∧ H w = none) → Fr [c] H H' → Q .non H'
def sp_Channel_value_by (C : Cs) : Sp := mkSp 4 fun vs H Q => ∃ (c pg po : Addr) (n : Int) (f : Fm) (ch : Ch) (g o : Fq), vs = [.ref c, .ref pg, .ref po, .int n] ∧ ChAt C H c f ch ∧ FormOk f ∧ FrAt H pg g ∧ FrAt H po o ∧ QB 40 g ∧ QB 40 o ∧ Cnt n ∧
  ∀ p H', Same H H' → FrAt H' p (Vbdlac.addQ (Vbdlac.mulQ g (Vbdlac.interp f.table n)) o) → Q (.ref p) H'
def sp_Channel_exact_value (C : Cs) : Sp := mkSp 2 fun vs H Q => ∃ (c : Addr) (n : Int) (f : Fm) (ch : Ch), vs = [.ref c, .int n] ∧ ChAt C H c f ch ∧ FormOk f ∧ ChOk ch ∧ Cnt n ∧ ∀ p H', Same H H' → FrAt H' p (Vbdlac.exact f ch n) → Q (.ref p) H'
def sp_Channel_whole_value (C : Cs) : Sp := mkSp 2 fun vs H Q => ∃ (c : Addr) (n : Int) (f : Fm) (ch : Ch), vs = [.ref c, .int n] ∧ ChAt C H c f ch ∧ FormOk f ∧ ChOk ch ∧ Cnt n ∧ ∀ H', Same H H' → Q (.int (Vbdlac.value f ch n)) H'
def sp_Channel_tells (C : Cs) : Sp := mkSp 1 fun vs H Q => ∃ (c : Addr) (f : Fm) (ch : Ch), vs = [.ref c] ∧ ChAt C H c f ch ∧ Q (.bl (decide (0 < ch.window.length))) H
def sp_Channel_told_value (C : Cs) : Sp := mkSp 1 fun vs H Q => ∃ (c : Addr) (f : Fm) (ch : Ch) (v : Int), vs = [.ref c] ∧ ChAt C H c f ch ∧ FormOk f ∧ ChOk ch ∧ Vbdlac.tells f ch = some v ∧ ∀ H', Same H H' → Q (.int v) H'
def isTr (ch : Ch) : Bool := decide (0 < ch.window.length) && decide (ch.fault = 0)
def sp_Channel_is_trusted (C : Cs) : Sp := mkSp 1 fun vs H Q => ∃ (c : Addr) (f : Fm) (ch : Ch), vs = [.ref c] ∧ ChAt C H c f ch ∧ Q (.bl (isTr ch)) H
def spCh (C : Cs) (c : Addr) (f : Fm) (ch : Ch) (H : Hp) (v : V) (Q : VK) : Prop := ∀ H', ChAt C H' c f ch → Fr [c] H H' → Q v H'
def sp_Channel_latch (C : Cs) : Sp := mkSp 2 fun vs H Q => ∃ (c : Addr) (k : Nat) (f : Fm) (ch : Ch), vs = [.ref c, .int (k : Int)] ∧ ChAt C H c f ch ∧ spCh C c f (Vbdlac.latch ch k) H .non Q
def sp_Channel_take (C : Cs) : Sp := mkSp 2 fun vs H Q => ∃ (c : Addr) (n : Int) (f : Fm) (ch : Ch), vs = [.ref c, .int n] ∧ ChAt C H c f ch ∧ ch.window.length ≤ 5 ∧ spCh C c f (Vbdlac.take f ch n) H .non Q
def outCh (f : Fm) (ch : Ch) : Ch := let c := { ch with out := min (ch.out + 1) f.times }; if c.out = f.times then Vbdlac.latch c 1 else c
def sp_Channel_take_out_of_range (C : Cs) : Sp := mkSp 1 fun vs H Q => ∃ (c : Addr) (f : Fm) (ch : Ch), vs = [.ref c] ∧ ChAt C H c f ch ∧ spCh C c f (outCh f ch) H .non Q
def inCh (f : Fm) (ch : Ch) (n : Int) : Ch :=
  let same := if ch.window.head? = some n then min (ch.same + 1) 1000 else 1
  let c := { ch with window := (n :: ch.window).take f.width, same := same, out := 0 }
  if 0 < f.stuck ∧ f.stuck ≤ same then Vbdlac.latch c 2 else c
theorem take_eq (f : Fm) (ch : Ch) (n : Int) : Vbdlac.take f ch n = if Vbdlac.inRange f n = false then outCh f ch else inCh f ch n := rfl
def sp_Channel_take_in_range (C : Cs) : Sp := mkSp 2 fun vs H Q => ∃ (c : Addr) (n : Int) (f : Fm) (ch : Ch), vs = [.ref c, .int n] ∧ ChAt C H c f ch ∧ ch.window.length ≤ 5 ∧ spCh C c f (inCh f ch n) H .non Q
def stuckB (f : Fm) (ch : Ch) : Bool := decide (0 < f.stuck) && decide (f.stuck ≤ ch.same)
def sp_Channel_is_stuck (C : Cs) : Sp := mkSp 1 fun vs H Q => ∃ (c : Addr) (f : Fm) (ch : Ch), vs = [.ref c] ∧ ChAt C H c f ch ∧ Q (.bl (stuckB f ch)) H
def sp_Channel_is_good (C : Cs) : Sp := mkSp 2 fun vs H Q => ∃ (c : Addr) (v : Int) (f : Fm) (ch : Ch), vs = [.ref c, .int v] ∧ ChAt C H c f ch ∧ FormOk f ∧ ChOk ch ∧ ∀ H', Same H H' → Q (.bl (Vbdlac.agrees f ch v)) H'
def sp_Channel_judge (C : Cs) : Sp := mkSp 2 fun vs H Q => ∃ (c : Addr) (v : Int) (f : Fm) (ch : Ch), vs = [.ref c, .int v] ∧ ChAt C H c f ch ∧ FormOk f ∧ ChOk ch ∧ spCh C c f (Vbdlac.judged f ch v) H .non Q
def clrCh (ch : Ch) : Ch := { ch with window := [], same := 0, out := 0 }
def sp_Channel_forget (C : Cs) : Sp := mkSp 1 fun vs H Q => ∃ (c : Addr) (f : Fm) (ch : Ch), vs = [.ref c] ∧ ChAt C H c f ch ∧ spCh C c f (clrCh ch) H .non Q
def sp_Channel_correct (C : Cs) : Sp := mkSp 5 fun vs H Q => ∃ (c : Addr) (c1 v1 c2 v2 : Int) (f : Fm) (ch : Ch), vs = [.ref c, .int c1, .int v1, .int c2, .int v2] ∧ ChAt C H c f ch ∧ FormOk f ∧ ChOk ch ∧ Cnt c1 ∧ Cnt c2 ∧
  (-1000000000 ≤ v1 ∧ v1 ≤ 1000000000) ∧ (-1000000000 ≤ v2 ∧ v2 ≤ 1000000000) ∧ spCh C c f (corr f ch c1 v1 c2 v2).1 H (.int (corr f ch c1 v1 c2 v2).2) Q
def sp_Channel_can_have (C : Cs) : Sp := mkSp 3 fun vs H Q => ∃ (c pg po : Addr) (f : Fm) (ch : Ch) (g o : Fq), vs = [.ref c, .ref pg, .ref po] ∧ ChAt C H c f ch ∧ FormOk f ∧ FrAt H pg g ∧ FrAt H po o ∧ 0 < g.den ∧ 0 < o.den ∧ ∀ H', Same H H' → Q (.bl (Vbdlac.tame f { ch with gain := g, offset := o })) H'
def sp_Channel_least_reaching (C : Cs) : Sp := mkSp 4 fun vs H Q => ∃ (c : Addr) (a b : Nat) (v : Int) (f : Fm) (ch : Ch), vs = [.ref c, .int (a : Int), .int (b : Int), .int v] ∧ ChAt C H c f ch ∧ FormOk f ∧ ChOk ch ∧ a ≤ b ∧ b ≤ 65536 ∧
  ∀ (L : Nat) (H' : Hp), Same H H' → a ≤ L → L ≤ b → (∀ i : Nat, a ≤ i → i < L → Vbdlac.value f ch (i : Int) < v) → (∀ i : Nat, L ≤ i → i < b → v ≤ Vbdlac.value f ch (i : Int)) → Q (.int (L : Int)) H'
def sp_Limits_init (C : Cs) : Sp := mkSp 4 fun vs H Q => ∃ (p dx : Addr) (a b c : Int), vs = [.ref p, .int a, .int b, .int c] ∧ H p = some (.ins C.li dx []) ∧ ∀ H', LiAt C H' p ⟨a, b, c, 0, 0, 0⟩ → Fr [p] H H' → Q .non H'
def sp_Limits_watch (C : Cs) : Sp := mkSp 3 fun vs H Q => ∃ (p : Addr) (v : Int) (t : Nat) (l : Lm), vs = [.ref p, .int v, .int (t : Int)] ∧ LiAt C H p l ∧ ∀ H', LiAt C H' p (Vbdlac.watched t l v) → Fr [p] H H' → Q .non H'
def alarmBy (l : Lm) (v : Int) (t : Nat) : Nat := if l.above = t then 2 else if l.below = t then 1 else if l.alarm = 2 ∧ v ≤ l.high - l.back then 0 else if l.alarm = 1 ∧ l.low + l.back ≤ v then 0 else l.alarm
def sp_Limits_alarm_by (C : Cs) : Sp := mkSp 3 fun vs H Q => ∃ (p : Addr) (v : Int) (t : Nat) (l : Lm), vs = [.ref p, .int v, .int (t : Int)] ∧ LiAt C H p l ∧ Q (.int (alarmBy l v t : Int)) H
def sp_Settings_init (C : Cs) : Sp := mkSp 3 fun vs H Q => ∃ (x dx g pl : Addr) (w m z d : Nat) (t lo hi : Int) (l : List (Int × Int)), vs = [.ref x, .ref g, .ref pl] ∧ H x = some (.ins C.st dx []) ∧ H g = some (.lst [.int (w : Int), .int t, .int (m : Int), .int (z : Int), .int (d : Int), .int lo, .int hi]) ∧ PairsAt H pl l ∧
  ∀ H', SetAt C H' x ⟨w, t, m, z, d, lo, hi, l⟩ → Fr [x] H H' → Q .non H'
def sp_Settings_has_in_range (C : Cs) : Sp := mkSp 2 fun vs H Q => ∃ (x : Addr) (n : Int) (f : Fm), vs = [.ref x, .int n] ∧ SetAt C H x f ∧ Q (.bl (Vbdlac.inRange f n)) H
def sp_Sensor_init (C : Cs) : Sp := mkSp 2 fun vs H Q => ∃ (x dx st : Addr) (f : Fm), vs = [.ref x, .ref st] ∧ H x = some (.ins C.se dx []) ∧ SetAt C H st f ∧
  ∀ (c0 c1 w0 w1 : Addr) (H' : Hp), H c0 = none → H c1 = none → H w0 = none → H w1 = none → c0 ≠ c1 → (∃ l, H l = none ∧ H' x = some (.ins C.se dx (seF st l 0 .non)) ∧ H' l = some (.lst [.ref c0, .ref c1])) → (∃ dx g o, ChC C H' c0 dx st g o w0 f Vbdlac.newChannel) → (∃ dx g o, ChC C H' c1 dx st g o w1 f Vbdlac.newChannel) → Fr [x] H H' → Q .non H'
def spSe (C : Cs) (a : SA) (s : Sn) (H : Hp) (Q : VK) : Prop := ∀ H', SeAt C H' a s → Fr (foot a) H H' → Q .non H'
def sp_Sensor_set_limits (C : Cs) : Sp := mkSp 4 fun vs H Q => ∃ (a : SA) (s : Sn) (x y z : Int), vs = [.ref a.x, .int x, .int y, .int z] ∧ SeAt C H a s ∧ ∀ (p : Addr) (H' : Hp), H p = none → SeAt C H' { a with L := some p } { s with limits := some ⟨x, y, z, 0, 0, 0⟩ } → Fr [a.x] H H' → Q .non H'
def sp_Sensor_alarm_now (C : Cs) : Sp := mkSp 1 fun vs H Q => ∃ (a : SA) (s : Sn), vs = [.ref a.x] ∧ SeAt C H a s ∧ Q (.int (Vbdlac.alarmOf s : Int)) H
def tvals (s : Sn) : List Int := (Vbdlac.trusted s.form s.a).toList ++ (Vbdlac.trusted s.form s.b).toList
def sp_Sensor_trusted_values (C : Cs) : Sp := mkSp 1 fun vs H Q => ∃ (a : SA) (s : Sn), vs = [.ref a.x] ∧ SeAt C H a s ∧ SeOk s ∧ ∀ p H', Same H H' → H' p = some (.lst ((tvals s).map V.int)) → Q (.ref p) H'
def sp_Sensor_reading_now (C : Cs) : Sp := mkSp 1 fun vs H Q => ∃ (a : SA) (s : Sn), vs = [.ref a.x] ∧ SeAt C H a s ∧ SeOk s ∧ ∀ H', Same H H' → Q (optV (Vbdlac.reading s)) H'
def gapO (s : Sn) : Option Int := match Vbdlac.trusted s.form s.a, Vbdlac.trusted s.form s.b with
  | some u, some v => some (Vbdlac.far u v)
  | _, _ => none
def sp_Sensor_gap_now (C : Cs) : Sp := mkSp 1 fun vs H Q => ∃ (a : SA) (s : Sn), vs = [.ref a.x] ∧ SeAt C H a s ∧ SeOk s ∧ ∀ H', Same H H' → Q (optV (gapO s)) H'
def sp_Sensor_sample (C : Cs) : Sp := mkSp 3 fun vs H Q => ∃ (a : SA) (s : Sn) (m n : Int), vs = [.ref a.x, .int m, .int n] ∧ SeAt C H a s ∧ SeOk s ∧ Cnt m ∧ Cnt n ∧ spSe C a (Vbdlac.sample s m n) H Q
def sp_Sensor_compare_channels (C : Cs) : Sp := mkSp 1 fun vs H Q => ∃ (a : SA) (s : Sn), vs = [.ref a.x] ∧ SeAt C H a s ∧ SeOk s ∧ spSe C a (cmpS s) H Q
def sp_Sensor_latch_both (C : Cs) : Sp := mkSp 2 fun vs H Q => ∃ (a : SA) (s : Sn) (k : Nat), vs = [.ref a.x, .int (k : Int)] ∧ SeAt C H a s ∧ spSe C a { s with a := Vbdlac.latch s.a k, b := Vbdlac.latch s.b k } H Q
def sp_Sensor_watch_limits (C : Cs) : Sp := mkSp 1 fun vs H Q => ∃ (a : SA) (s : Sn), vs = [.ref a.x] ∧ SeAt C H a s ∧ SeOk s ∧ spSe C a (watchS s) H Q
def sp_Sensor_judge_channels (C : Cs) : Sp := mkSp 2 fun vs H Q => ∃ (a : SA) (s : Sn) (v : Int), vs = [.ref a.x, .int v] ∧ SeAt C H a s ∧ SeOk s ∧ spSe C a { s with a := Vbdlac.judged s.form s.a v, b := Vbdlac.judged s.form s.b v, unlike := 0 } H Q
def sp_Sensor_forget_counts (C : Cs) : Sp := mkSp 1 fun vs H Q => ∃ (a : SA) (s : Sn), vs = [.ref a.x] ∧ SeAt C H a s ∧ spSe C a { s with a := clrCh s.a, b := clrCh s.b, unlike := 0 } H Q
def Sml (ns : List Int) : Prop := ns.length ≤ 20000 ∧ ∀ n ∈ ns, -1000000000000000000 ≤ n ∧ n ≤ 1000000000000000000
def sp_has_form (C : Cs) : Sp := mkSp 1 fun vs H Q => ∃ (p : Addr) (ns : List Int), vs = [.ref p] ∧ H p = some (.lst (ns.map V.int)) ∧ Sml ns ∧ Q (.bl (hasForm ns)) H
def sp_plain_numbers (C : Cs) : Sp := mkSp 1 fun vs H Q => ∃ (p : Addr) (n : Int) (r : List Int), vs = [.ref p] ∧ H p = some (.lst ((n :: r).map V.int)) ∧ Sml (n :: r) ∧ hasForm (n :: r) = true ∧ ∀ g H', New H g (.lst ((r.take (formAt n).1).map V.int)) H' → Q (.ref g) H'
def sp_listed_things (C : Cs) : Sp := mkSp 1 fun vs H Q => ∃ (p : Addr) (n : Int) (r : List Int), vs = [.ref p] ∧ H p = some (.lst ((n :: r).map V.int)) ∧ Sml (n :: r) ∧ hasForm (n :: r) = true ∧
  ∀ g H', Same H H' → H g = none → ((formAt n).2 = 2 → PairsAt H' g (Vbdlac.pairsOf (r.drop ((formAt n).1 + 1)))) → ((formAt n).2 ≠ 2 → H' g = some (.lst ((r.drop ((formAt n).1 + 1)).map V.int))) → Q (.ref g) H'
def sp_fitted_line (C : Cs) : Sp := mkSp 1 fun vs H Q => ∃ (a : Addr) (l : List (Int × Int)), vs = [.ref a] ∧ PairsAt H a l ∧ 2 ≤ l.length ∧ l.length ≤ 16 ∧ PtOk l ∧ (Vbdlac.nearestLine l = none → ∀ H', Same H H' → Q .non H') ∧
  ∀ s o, Vbdlac.nearestLine l = some (s, o) → ∀ p ps po H', Same H H' → H' p = some (.tup [.ref ps, .ref po]) → FrAt H' ps s → FrAt H' po o → QB 1000 s → QB 1000 o → Q (.ref p) H'
def strL (x : Str) : List Int := (x.length : Int) :: x.cps.toList.map fun (c : Nat) => (c : Int)
def sp_text_numbers (C : Cs) : Sp := mkSp 1 fun vs H Q => ∃ x : Str, vs = [.str x] ∧ x.length ≤ 100000 ∧ ∀ p H', Same H H' → H p = none → H' p = some (.lst ((strL x).map V.int)) → Q (.ref p) H'
def anyL : Option Int → List Int
  | none => [0, 0]
  | some v => [1, v]
def sp_number_if_any (C : Cs) : Sp := mkSp 1 fun vs H Q => ∃ o : Option Int, vs = [optV o] ∧ ∀ p H', New H p (.lst ((anyL o).map V.int)) H' → Q (.ref p) H'
def spL (l : List Int) (H : Hp) (Q : VK) : Prop := ∀ p H', Same H H' → H p = none → H' p = some (.lst (l.map V.int)) → Q (.ref p) H'
def sp_sensor_answer (C : Cs) : Sp := mkSp 1 fun vs H Q => ∃ (a : SA) (s : Sn), vs = [.ref a.x] ∧ SeAt C H a s ∧ SeOk s ∧ spL (Vbdlac.face s) H Q
def sp_channel_state (C : Cs) : Sp := mkSp 1 fun vs H Q => ∃ (c : Addr) (f : Fm) (ch : Ch), vs = [.ref c] ∧ ChAt C H c f ch ∧ ch.window.length ≤ 5 ∧ spL (Vbdlac.channelNumbers ch) H Q
def sp_limits_state (C : Cs) : Sp := mkSp 1 fun vs H Q => ∃ (L : Option Addr) (o : Option Lm), vs = [limV L] ∧ LimO C H L o ∧ spL (Vbdlac.limitNumbers o) H Q
def sp_can_search (C : Cs) : Sp := mkSp 3 fun vs H Q => ∃ n k v : Int, vs = [.int n, .int k, .int v] ∧ Q (.bl (Vbdlac.isCount n && (Vbdlac.within k 1 1000 && (decide (n + k ≤ Vbdlac.TOP + 1) && Vbdlac.within v (-Vbdlac.HUGE) Vbdlac.HUGE)))) H
def Post (C : Cs) (H : Hp) (ls : Addr) (r : Vbdlac.St × List Int) (Q : VK) : Prop := ∀ (as : List SA) (p : Addr) (H' : Hp), Rep C H' ls as r.1.sensors → (∀ b o, b ≠ ls → H b = some o → kind o = 0 → H' b = some o) → H' p = some (.lst (r.2.map V.int)) → H p = none → Q (.ref p) H'
def spCall (C : Cs) (pre : Hp → Addr → Addr → List Int → Vbdlac.Call → Prop) : Sp := mkSp 3 fun vs H Q => ∃ (ls g li : Addr) (as : List SA) (ss : List Sn) (ns : List Int) (c : Vbdlac.Call), vs = [.ref ls, .ref g, .ref li] ∧ Rep C H ls as ss ∧ StOk ss ∧ H g = some (.lst (ns.map V.int)) ∧ li ≠ ls ∧ pre H li ls ns c ∧ Post C H ls (Vbdlac.step ⟨ss⟩ c) Q
def C0 (C : Cs) (f : List Int → Option Vbdlac.Call) : Sp := spCall C fun _ _ _ ns c => f ns = some c
def sp_call_sensor (C : Cs) : Sp := spCall C fun H li _ ns c => ∃ w t m z d lo hi l, ns = [w, t, m, z, d, lo, hi] ∧ PairsAt H li (Vbdlac.pairsOf l) ∧ c = .sensor w t m z d lo hi l
def sp_call_limits (C : Cs) : Sp := C0 C fun | [s, a, b, c] => some (.limits s a b c) | _ => none
def sp_call_feed (C : Cs) : Sp := C0 C fun | [s, m, n] => some (.feed s m n) | _ => none
def sp_call_feeds (C : Cs) : Sp := spCall C fun H li _ ns c => ∃ s l, ns = [s] ∧ l.length % 2 = 0 ∧ PairsAt H li (Vbdlac.pairsOf l) ∧ c = .feeds s l
def sp_call_reading (C : Cs) : Sp := C0 C fun | [s] => some (.reading s) | _ => none
def sp_call_exact (C : Cs) : Sp := C0 C fun | [s, c, n] => some (.exact s c n) | _ => none
def sp_call_value (C : Cs) : Sp := C0 C fun | [s, c, n] => some (.value s c n) | _ => none
def sp_call_correct (C : Cs) : Sp := C0 C fun | [s, c, a, v, b, w] => some (.correct s c a v b w) | _ => none
def sp_call_drift (C : Cs) : Sp := C0 C fun | [s, c] => some (.drift s c) | _ => none
def sp_call_reference (C : Cs) : Sp := C0 C fun | [s, v] => some (.reference s v) | _ => none
def sp_call_least (C : Cs) : Sp := C0 C fun | [s, c, n, k, v] => some (.least s c n k v) | _ => none
def sp_call_middle (C : Cs) : Sp := spCall C fun H li _ ns c => ∃ l, ns = [] ∧ H li = some (.lst (l.map V.int)) ∧ c = .middle l
def sp_call_line (C : Cs) : Sp := spCall C fun H li _ ns c => ∃ l, ns = [] ∧ PairsAt H li (Vbdlac.pairsOf l) ∧ c = .line l
def sp_call_state (C : Cs) : Sp := C0 C fun | [s] => some (.state s) | _ => none
def sp_call_clear (C : Cs) : Sp := C0 C fun | [s] => some (.clear s) | _ => none
def sp_call_count (C : Cs) : Sp := C0 C fun | [] => some .count | _ => none
def sp_call_gap (C : Cs) : Sp := C0 C fun | [s] => some (.gap s) | _ => none
def sp_answer_call (C : Cs) : Sp := mkSp 2 fun vs H Q => ∃ (ls p : Addr) (as : List SA) (ss : List Sn) (ns : List Int), vs = [.ref ls, .ref p] ∧ Rep C H ls as ss ∧ StOk ss ∧ H p = some (.lst (ns.map V.int)) ∧ p ≠ ls ∧ Sml ns ∧ Post C H ls (Vbdlac.stepRaw ⟨ss⟩ ns) Q
end Tw
set_option Elab.async false
set_option linter.all false
set_option maxRecDepth 100000
set_option maxHeartbeats 2000000
namespace Tw
open PySem PySem.Spec PyProof.Rows L2 L3
theorem IxT.a {K : PySem.W.Frag} {H : Hp} {p : Addr} {u : V} {xs : List V} (h : H p = some (.tup (u :: xs))) : IxT K H (.ref p) (.int 0) u := IxT.mk (j := 0) h rfl
theorem IxT.b {K : PySem.W.Frag} {H : Hp} {p : Addr} {u v : V} {xs : List V} (h : H p = some (.tup (u :: v :: xs))) : IxT K H (.ref p) (.int 1) v := IxT.mk (j := 1) h rfl
theorem IxL.k0 {K : PySem.W.Frag} {H : Hp} {p : Addr} {a : V} {xs : List V} (h : H p = some (.lst (a :: xs))) : IxL K H (.ref p) (.int 0) a := IxL.mk (j := 0) h rfl
theorem IxL.k1 {K : PySem.W.Frag} {H : Hp} {p : Addr} {a b : V} {xs : List V} (h : H p = some (.lst (a :: b :: xs))) : IxL K H (.ref p) (.int 1) b := IxL.mk (j := 1) h rfl
theorem IxL.k2 {K : PySem.W.Frag} {H : Hp} {p : Addr} {a b c : V} {xs : List V} (h : H p = some (.lst (a :: b :: c :: xs))) : IxL K H (.ref p) (.int 2) c := IxL.mk (j := 2) h rfl
theorem IxL.k3 {K : PySem.W.Frag} {H : Hp} {p : Addr} {a b c d : V} {xs : List V} (h : H p = some (.lst (a :: b :: c :: d :: xs))) : IxL K H (.ref p) (.int 3) d := IxL.mk (j := 3) h rfl
theorem IxL.k4 {K : PySem.W.Frag} {H : Hp} {p : Addr} {a b c d e : V} {xs : List V} (h : H p = some (.lst (a :: b :: c :: d :: e :: xs))) : IxL K H (.ref p) (.int 4) e := IxL.mk (j := 4) h rfl
theorem IxL.k5 {K : PySem.W.Frag} {H : Hp} {p : Addr} {a b c d e f : V} {xs : List V} (h : H p = some (.lst (a :: b :: c :: d :: e :: f :: xs))) : IxL K H (.ref p) (.int 5) f := IxL.mk (j := 5) h rfl
theorem IxL.k6 {K : PySem.W.Frag} {H : Hp} {p : Addr} {a b c d e f g : V} {xs : List V} (h : H p = some (.lst (a :: b :: c :: d :: e :: f :: g :: xs))) : IxL K H (.ref p) (.int 6) g := IxL.mk (j := 6) h rfl
theorem Qb {Q : VK} {b c : Bool} {H : Hp} (k : Q (.bl b) H) (e : b = c) : Q (.bl c) H := e ▸ k
theorem Qi {Q : VK} {b c : Int} {H : Hp} (k : Q (.int b) H) (e : b = c) : Q (.int c) H := e ▸ k
theorem small_len {n : Nat} (h : n ≤ 16777216) : n ≤ sizeLine := by rw [sizeLine_eq]; exact h
theorem sm_of {z : Int} {n : Nat} (h : z.natAbs < 2 ^ n) (l : n ≤ 3000) : Sm 3000 z := Nat.lt_of_lt_of_le h (pow_le l)
theorem sm_nat {d n : Nat} (h : d < 2 ^ n) (l : n ≤ 3000) : Sm 3000 (d : Int) := sm_of (by rw [Int.natAbs_natCast]; exact h) l
theorem within_iff {n lo hi : Int} : Vbdlac.within n lo hi = true ↔ lo ≤ n ∧ n ≤ hi := by
  unfold Vbdlac.within
  rw [Bool.and_eq_true, decide_eq_true_eq, decide_eq_true_eq]
theorem isCount_iff {n : Int} : Vbdlac.isCount n = true ↔ 0 ≤ n ∧ n ≤ 65535 := within_iff
theorem isValue_iff {n : Int} : Vbdlac.isValue n = true ↔ -1000000000 ≤ n ∧ n ≤ 1000000000 := within_iff
theorem MOST_eq : Vbdlac.MOST = 1000000000 := rfl
theorem TOP_eq : Vbdlac.TOP = 65535 := rfl
theorem HUGE_eq : Vbdlac.HUGE = 1000000000000 := rfl
theorem cnt_iff {n : Int} : Vbdlac.isCount n = true ↔ Cnt n := isCount_iff
section
variable {P : Program} {w : World} {K : PySem.W.Frag} {mg : Str → Option Value} {base : Heap} {C : Cs}
theorem ok_is_count {f : Addr} {fd : FuncData} (F : Fun K "is_count" "is_count" s_is_count f fd) (T : Txt K mg C)  : FnOk P w K mg base CX0 1 f fd ["number"] (sp_is_count C) := by
  refine F.ok sc_is_count (fun _ _ _ _ h => h.1) (fun cdv A outer s H vs Q E hr h => ?_)
  obtain ⟨-, h⟩ := h
  obtain ⟨n, rfl, k⟩ := h
  refine ⟨_, (pss_one (ps_ret (pe_chain op_le op_le pe_int (pv 0) (x_gc rfl T.c_LAST_COUNT)))), ?_⟩
  refine ⟨_, rfl, _, _, rfl, rfl, _, rfl, ifB (fun h1 => ⟨_, _, rfl, rfl, Qb k ?_⟩) (fun h1 => Qb k ?_)⟩
  · simp [Vbdlac.isCount, Vbdlac.within, Vbdlac.TOP, h1]; rfl
  · simp [Vbdlac.isCount, Vbdlac.within, Vbdlac.TOP, h1]
theorem ok_is_value {f : Addr} {fd : FuncData} (F : Fun K "is_value" "is_value" s_is_value f fd) (T : Txt K mg C)  : FnOk P w K mg base CX0 1 f fd ["number"] (sp_is_value C) := by
  refine F.ok sc_is_value (fun _ _ _ _ h => h.1) (fun cdv A outer s H vs Q E hr h => ?_)
  obtain ⟨-, h⟩ := h
  obtain ⟨n, rfl, k⟩ := h
  refine ⟨_, (pss_one (ps_ret (pe_chain op_le op_le (pe_un un_neg (x_gc rfl T.c_VALUE_BOUND)) (pv 0) (x_gc rfl T.c_VALUE_BOUND)))), ?_⟩
  refine ⟨_, rfl, _, rfl, _, _, rfl, rfl, _, rfl, ifB (fun h1 => ⟨_, _, rfl, rfl, Qb k ?_⟩) (fun h1 => Qb k ?_)⟩
  · simp [Vbdlac.isValue, Vbdlac.within, Vbdlac.MOST, h1]; rfl
  · simp [Vbdlac.isValue, Vbdlac.within, Vbdlac.MOST, h1]
theorem pts_item {H : Hp} {ps : List Addr} {l : List (Int × Int)} (h : PtsAt H ps l) {i : Nat} {x : V} (hx : (ps.map V.ref)[i]? = some x) : ∃ (p : Addr) (c : Int × Int), x = .ref p ∧ l[i]? = some c ∧ H p = some (.tup [.int c.1, .int c.2]) := by
  rw [List.getElem?_map] at hx
  cases hp : ps[i]? with
  | none => rw [hp] at hx; cases hx
  | some p =>
    rw [hp] at hx
    obtain ⟨c, hc⟩ : ∃ c, l[i]? = some c := ⟨l[i]'(by rw [← h.1]; exact (List.getElem?_eq_some_iff.mp hp).1), List.getElem?_eq_getElem _⟩
    exact ⟨p, c, (Option.some.inj hx).symm, hc, h.2 i p c hp hc⟩
theorem all_take {α : Type} {g : α → Bool} : ∀ {l : List α} {i : Nat} {c : α}, l[i]? = some c → (l.take i).all g = true → g c = true → (l.take (i + 1)).all g = true := by
  intro l i c h1 h2 h3
  rw [List.take_succ, h1, List.all_append, h2]
  simp [h3]
theorem all_false {α : Type} {g : α → Bool} {l : List α} {i : Nat} {c : α} (h1 : l[i]? = some c) (h3 : g c = false) : l.all g = false := by
  cases e : l.all g with
  | false => rfl
  | true =>
    rw [List.all_eq_true] at e
    rw [e c (List.mem_of_getElem? h1)] at h3
    cases h3
theorem ok_are_counts {f : Addr} {fd : FuncData} (F : Fun K "are_counts" "are_counts" s_are_counts f fd) (T : Txt K mg C) (D_is_count : Def P w K mg base "is_count" 1 ["number"] (sp_is_count C)) : FnOk P w K mg base CX0 2 f fd ["pairs"] (sp_are_counts C) := by
  refine F.ok sc_are_counts (fun _ _ _ _ h => h.1) (fun cdv A outer s H vs Q E hr h => ?_)
  obtain ⟨-, h⟩ := h
  obtain ⟨a, l, rfl, ⟨ps, hp, hl⟩, k⟩ := h
  refine ⟨_, (pss_cons (ps_for PassesOwn.never rfl (pi_list (pv 0)) (pg_name (i := 1) sc_are_counts.nd rfl (Or.inl rfl)) (pss_one (ps_if (pt_not (PW.pt (pw_and (pt_val (x_call D_is_count (hr.mono (by decide)) rfl (pa_cons (x_ixt (pv 1) pe_int) pa_nil))) (pw_and1 (pt_val (x_call D_is_count (hr.mono (by decide)) rfl (pa_cons (x_ixt (pv 1) pe_int) pa_nil))))))) (pss_one (ps_ret pe_bl)) pss_nil))) (pss_one (ps_ret pe_bl))), ?_⟩
  refine ⟨_, rfl, a, rfl, ⟨_, SqL.of hp⟩, for_list (K := K) (a := a) (xs := ps.map V.ref) (fun i σ H' => H' = H ∧ (∃ v, σ = [some (.ref a), v]) ∧ (l.take i).all (fun p => Vbdlac.isCount p.1 && Vbdlac.isCount p.2) = true) ⟨rfl, ⟨none, rfl⟩, rfl⟩
    (fun i σ H' _ ⟨e, _⟩ => by subst e; exact SqL.of hp) ?_ ?_⟩
  · rintro i x σ H' hx ⟨rfl, ⟨v, rfl⟩, hall⟩
    obtain ⟨p, c, rfl, hc, hpt⟩ := pts_item hl hx
    refine ⟨_, rfl, _, IxT.a hpt, rfl, _, rfl, _, rfl, ifC (fun h1 => ⟨_, rfl, _, IxT.b hpt, rfl, _, rfl, _, rfl, ?_⟩) (fun h1 => ?_)⟩
    · refine ifCN (fun h2 => Qb k ?_) (fun h2 => ⟨rfl, ⟨_, rfl⟩, all_take hc hall (by simp [h1, h2])⟩)
      exact all_false hc (by simp [h2])
    · exact Qb k (all_false hc (by simp [h1]))
  · rintro σ H' ⟨rfl, ⟨v, rfl⟩, hall⟩
    rw [List.length_map, hl.1, List.take_length] at hall
    exact Qb k hall
theorem ok_are_points {f : Addr} {fd : FuncData} (F : Fun K "are_points" "are_points" s_are_points f fd) (T : Txt K mg C) (D_is_value : Def P w K mg base "is_value" 1 ["number"] (sp_is_value C)) (D_is_count : Def P w K mg base "is_count" 1 ["number"] (sp_is_count C)) : FnOk P w K mg base CX0 2 f fd ["pairs"] (sp_are_points C) := by
  refine F.ok sc_are_points (fun _ _ _ _ h => h.1) (fun cdv A outer s H vs Q E hr h => ?_)
  obtain ⟨-, h⟩ := h
  obtain ⟨a, l, rfl, ⟨ps, hp, hl⟩, k⟩ := h
  refine ⟨_, (pss_cons (ps_for PassesOwn.never rfl (pi_list (pv 0)) (pg_name (i := 1) sc_are_points.nd rfl (Or.inl rfl)) (pss_one (ps_if (pt_not (PW.pt (pw_and (pt_val (x_call D_is_count (hr.mono (by decide)) rfl (pa_cons (x_ixt (pv 1) pe_int) pa_nil))) (pw_and1 (pt_val (x_call D_is_value (hr.mono (by decide)) rfl (pa_cons (x_ixt (pv 1) pe_int) pa_nil))))))) (pss_one (ps_ret pe_bl)) pss_nil))) (pss_one (ps_ret pe_bl))), ?_⟩
  refine ⟨_, rfl, a, rfl, ⟨_, SqL.of hp⟩, for_list (K := K) (a := a) (xs := ps.map V.ref) (fun i σ H' => H' = H ∧ (∃ v, σ = [some (.ref a), v]) ∧ (l.take i).all (fun p => Vbdlac.isCount p.1 && Vbdlac.isValue p.2) = true) ⟨rfl, ⟨none, rfl⟩, rfl⟩
    (fun i σ H' _ ⟨e, _⟩ => by subst e; exact SqL.of hp) ?_ ?_⟩
  · rintro i x σ H' hx ⟨rfl, ⟨v, rfl⟩, hall⟩
    obtain ⟨p, c, rfl, hc, hpt⟩ := pts_item hl hx
    refine ⟨_, rfl, _, IxT.a hpt, rfl, _, rfl, _, rfl, ifC (fun h1 => ⟨_, rfl, _, IxT.b hpt, rfl, _, rfl, _, rfl, ?_⟩) (fun h1 => ?_)⟩
    · refine ifCN (fun h2 => Qb k ?_) (fun h2 => ⟨rfl, ⟨_, rfl⟩, all_take hc hall (by simp [h1, h2])⟩)
      exact all_false hc (by simp [h2])
    · exact Qb k (all_false hc (by simp [h1]))
  · rintro σ H' ⟨rfl, ⟨v, rfl⟩, hall⟩
    rw [List.length_map, hl.1, List.take_length] at hall
    exact Qb k hall
theorem int_item {ns : List Int} {i : Nat} {x : V} (hx : (ns.map V.int)[i]? = some x) : ∃ n, ns[i]? = some n ∧ x = .int n := by
  rw [List.getElem?_map] at hx
  cases hp : ns[i]? with
  | none => rw [hp] at hx; cases hx
  | some p => rw [hp] at hx; exact ⟨p, rfl, (Option.some.inj hx).symm⟩
theorem ok_are_values {f : Addr} {fd : FuncData} (F : Fun K "are_values" "are_values" s_are_values f fd) (T : Txt K mg C) (D_is_value : Def P w K mg base "is_value" 1 ["number"] (sp_is_value C)) : FnOk P w K mg base CX0 2 f fd ["numbers"] (sp_are_values C) := by
  refine F.ok sc_are_values (fun _ _ _ _ h => h.1) (fun cdv A outer s H vs Q E hr h => ?_)
  obtain ⟨-, h⟩ := h
  obtain ⟨a, ns, rfl, hp, k⟩ := h
  refine ⟨_, (pss_cons (ps_for PassesOwn.never rfl (pi_list (pv 0)) (pg_name (i := 1) sc_are_values.nd rfl (Or.inl rfl)) (pss_one (ps_if (pt_not (pt_val (x_call D_is_value (hr.mono (by decide)) rfl (pa_cons (pv 1) pa_nil)))) (pss_one (ps_ret pe_bl)) pss_nil))) (pss_one (ps_ret pe_bl))), ?_⟩
  refine ⟨_, rfl, a, rfl, ⟨_, SqL.of hp⟩, for_list (K := K) (a := a) (xs := ns.map V.int) (fun i σ H' => H' = H ∧ (∃ v, σ = [some (.ref a), v]) ∧ (ns.take i).all Vbdlac.isValue = true) ⟨rfl, ⟨none, rfl⟩, rfl⟩
    (fun i σ H' _ ⟨e, _⟩ => by subst e; exact SqL.of hp) ?_ ?_⟩
  · rintro i x σ H' hx ⟨rfl, ⟨v, rfl⟩, hall⟩
    obtain ⟨n, hn, rfl⟩ := int_item hx
    refine ⟨_, rfl, rfl, _, rfl, _, rfl, ifCN (fun h2 => Qb k (all_false hn h2)) (fun h2 => ⟨rfl, ⟨_, rfl⟩, all_take hn hall h2⟩)⟩
  · rintro σ H' ⟨rfl, ⟨v, rfl⟩, hall⟩
    rw [List.length_map, List.take_length] at hall
    exact Qb k hall
theorem ok_are_limits {f : Addr} {fd : FuncData} (F : Fun K "are_limits" "are_limits" s_are_limits f fd) (T : Txt K mg C)  : FnOk P w K mg base CX0 1 f fd ["low", "high", "back"] (sp_are_limits C) := by
  refine F.ok sc_are_limits (fun _ _ _ _ h => h.1) (fun cdv A outer s H vs Q E hr h => ?_)
  obtain ⟨-, h⟩ := h
  obtain ⟨a, b, c, rfl, k⟩ := h
  refine ⟨_, (pss_one (ps_ret (pe_and (pe_chain3 op_le op_le op_le (pe_un un_neg (x_gc rfl T.c_VALUE_BOUND)) (pv 0) (pv 1) (x_gc rfl T.c_VALUE_BOUND) ) (pe_one (pe_chain op_le op_le pe_int (pv 2) (pe_op op_sub (pv 1) (pv 0))))))), ?_⟩
  refine ⟨_, rfl, _, rfl, _, _, rfl, rfl, _, rfl, ifB (fun h1 => ⟨_, rfl, _, _, rfl, rfl, _, rfl, ifB (fun h2 => ⟨_, _, rfl, rfl, _, rfl, ifB (fun h3 => ⟨_, rfl, _, _, rfl, rfl, _, rfl, ifB (fun h4 => ⟨_, rfl, _, rfl, _, _, rfl, rfl, _, _, rfl, rfl, Qb k ?_⟩) (fun h4 => Qb k ?_)⟩) (fun h3 => Qb k ?_)⟩) (fun h2 => ⟨_, rfl, iteF (Qb k ?_)⟩)⟩) (fun h1 => ⟨_, rfl, iteF (Qb k ?_)⟩)⟩
  all_goals apply Bool.eq_iff_iff.mpr
  all_goals simp only [Bool.and_eq_true, isValue_iff, within_iff, MOST_eq, decide_eq_true_eq, Bool.false_eq_true]
  all_goals constructor <;> intro hh <;> first | exact hh.elim | omega
theorem ok_has_sensor {f : Addr} {fd : FuncData} (F : Fun K "has_sensor" "has_sensor" s_has_sensor f fd) (T : Txt K mg C)  : FnOk P w K mg base CX0 1 f fd ["sensors", "s"] (sp_has_sensor C) := by
  refine F.ok sc_has_sensor (fun _ _ _ _ h => h.1) (fun cdv A outer s H vs Q E hr h => ?_)
  obtain ⟨-, h⟩ := h
  obtain ⟨l, xs, s, rfl, hl, k⟩ := h
  refine ⟨_, (pss_one (ps_ret (pe_chain op_le op_lt pe_int (pv 1) (pe_callB x_callen (by rfl) T.b_len boot_len' (pa_cons (pv 0) pa_nil))))), ?_⟩
  refine ⟨_, rfl, _, _, rfl, rfl, _, rfl, ifB (fun h1 => ⟨_, rfl, _, LenF.l hl, _, _, rfl, rfl, Qb k ?_⟩) (fun h1 => Qb k ?_)⟩
  · simp [hasS, h1]
  · simp [hasS, h1]
theorem ok_has_channel {f : Addr} {fd : FuncData} (F : Fun K "has_channel" "has_channel" s_has_channel f fd) (T : Txt K mg C) (D_has_sensor : Def P w K mg base "has_sensor" 1 ["sensors", "s"] (sp_has_sensor C)) : FnOk P w K mg base CX0 2 f fd ["sensors", "s", "ch"] (sp_has_channel C) := by
  refine F.ok sc_has_channel (fun _ _ _ _ h => h.1) (fun cdv A outer s H vs Q E hr h => ?_)
  obtain ⟨-, h⟩ := h
  obtain ⟨l, xs, s, c, rfl, hl, k⟩ := h
  refine ⟨_, (pss_one (ps_ret (pe_and (x_call D_has_sensor (hr.mono (by decide)) rfl (pa_cons (pv 0) (pa_cons (pv 1) pa_nil))) (pe_one (pe_chain op_le op_le pe_int (pv 2) pe_int))))), ?_⟩
  refine ⟨_, rfl, _, rfl, rfl, _, _, _, rfl, hl, _, rfl, ifC (fun h1 => ⟨_, rfl, _, _, rfl, rfl, _, rfl, ifB (fun h2 => ⟨_, _, rfl, rfl, Qb k ?_⟩) (fun h2 => Qb k ?_)⟩) (fun h1 => Qb k ?_)⟩
  · simp [h1, Vbdlac.within, h2]
  · simp [h1, Vbdlac.within, h2]
  · simp [h1]
theorem ok_greatest_divisor {f : Addr} {fd : FuncData} (F : Fun K "greatest_divisor" "greatest_divisor" s_greatest_divisor f fd) (T : Txt K mg C)  : FnOk P w K mg base CX0 1 f fd ["a", "b"] (sp_greatest_divisor C) := by
  refine F.ok sc_greatest_divisor (fun _ _ _ _ h => h.1) (fun cdv A outer s H vs Q E hr h => ?_)
  obtain ⟨-, h⟩ := h
  obtain ⟨a, b, rfl, k⟩ := h
  refine ⟨_, (pss_cons (ps_while PassesOwn.never (pt_cmpR x_opne (pv 1) pe_int (nomark _)) (pss_cons (ps_set (i := 2) sc_greatest_divisor.nd rfl (Or.inl rfl) (pe_op op_mod (pv 0) (pv 1))) (pss_cons (ps_set (i := 0) sc_greatest_divisor.nd rfl (Or.inl rfl) (pv 1)) (pss_one (ps_set (i := 1) sc_greatest_divisor.nd rfl (Or.inl rfl) (pv 2)))))) (pss_one (ps_ret (pv 0)))), ?_⟩
  refine while_by (fun σ H' => H' = H ∧ ∃ (x y : Nat) (r : Option V), σ = [some (.int (x : Int)), some (.int (y : Int)), r] ∧ Nat.gcd x y = Nat.gcd a b) (fun σ _ => match σ with | [_, some (.int y), _] => y.toNat | _ => 0) ⟨rfl, a, b, none, rfl, rfl⟩ ?_ ?_
  · rintro σ H' ⟨rfl, x, y, r, rfl, hg⟩
    refine ⟨_, rfl, _, _, rfl, rfl, _, rfl, ifN (fun h1 => ?_) (fun h1 => ?_)⟩
    · have hy : 0 < y := by omega
      refine ⟨_, rfl, _, rfl, _, _, rfl, rfl, (by show (0 : Int) < (y : Int); omega), _, rfl, _, rfl, ⟨rfl, y, x % y, _, rfl, ?_⟩, ?_⟩
      · rw [← hg, Nat.gcd_comm y (x % y), ← Nat.gcd_rec y x, Nat.gcd_comm]
      · show (((x : Int) % (y : Int))).toNat < ((y : Int)).toNat
        have := Nat.mod_lt x hy
        omega
    · refine ⟨_, rfl, Qi k ?_⟩
      have hy : y = 0 := by omega
      subst hy
      rw [Nat.gcd_zero_right] at hg
      rw [← hg]
  · intro σ H' Q1 Q2 hm ⟨v, h1, i, j, h2, h3, c, h4, h5⟩
    exact ⟨v, h1, i, j, h2, h3, c, h4, hm _ _ h5⟩
theorem ok_ratio {f : Addr} {fd : FuncData} (F : Fun K "ratio" "ratio" s_ratio f fd) (T : Txt K mg C) (D_greatest_divisor : Def P w K mg base "greatest_divisor" 1 ["a", "b"] (sp_greatest_divisor C)) : FnOk P w K mg base CX0 2 f fd ["top", "bottom"] (sp_ratio C) := by
  refine F.ok sc_ratio (fun _ _ _ _ h => h.1) (fun cdv A outer s H vs Q E hr h => ?_)
  obtain ⟨-, h⟩ := h
  obtain ⟨n, d, rfl, hd, hb, k⟩ := h
  refine ⟨_, (pss_cons (ps_set (i := 2) sc_ratio.nd rfl (Or.inl rfl) (x_call D_greatest_divisor (hr.mono (by decide)) rfl (pa_cons (pe_callB call_abs (by rfl) T.b_abs boot_abs' (pa_cons (pv 0) pa_nil)) (pa_cons (pv 1) pa_nil)))) (pss_one (ps_ret (x_tup (pa_cons (pe_op x_opdiv (pv 0) (pv 2)) (pa_cons (pe_op x_opdiv (pv 1) (pv 2)) pa_nil)))))), ?_⟩
  have e : (if n < 0 then -n else n) = (n.natAbs : Int) := by split <;> omega
  have hg := gcd_pos n hd
  have hg2 : Nat.gcd n.natAbs d < 2 ^ 3000 := Nat.lt_of_le_of_lt (Nat.gcd_le_right _ hd) hb
  refine ⟨_, rfl, _, rfl, _, rfl, rfl, n.natAbs, d, by rw [e], ?_⟩
  refine ⟨_, rfl, _, rfl, _, _, rfl, rfl, ⟨by show (0 : Int) < _; omega, sm_nat hg2 (Nat.le_refl _)⟩, _, rfl, _, rfl, _, _, rfl, rfl, ⟨by show (0 : Int) < _; omega, sm_nat hg2 (Nat.le_refl _)⟩, small_len (by simp), fun p H2 hN => k p H2 hN.same ?_⟩
  show H2 p = some (.tup [.int (n / _), .int (((d / Nat.gcd n.natAbs d : Nat)) : Int)])
  rw [Int.natCast_ediv]
  exact hN.at_
theorem ok_whole {f : Addr} {fd : FuncData} (F : Fun K "whole" "whole" s_whole f fd) (T : Txt K mg C)  : FnOk P w K mg base CX0 1 f fd ["number"] (sp_whole C) := by
  refine F.ok sc_whole (fun _ _ _ _ h => h.1) (fun cdv A outer s H vs Q E hr h => ?_)
  obtain ⟨-, h⟩ := h
  obtain ⟨z, rfl, k⟩ := h
  refine ⟨_, (pss_one (ps_ret (x_tup (pa_cons (pv 0) (pa_cons pe_int pa_nil))))), ?_⟩
  exact ⟨_, rfl, small_len (by simp), fun p H2 hN => k p H2 hN.same hN.at_⟩
theorem QB.sm {n : Nat} {a : Fq} (h : QB n a) (l : n ≤ 3000) : Sm 3000 a.num ∧ Sm 3000 (a.den : Int) := ⟨sm_of h.nb l, sm_nat h.db l⟩
theorem mul3000 {a b : Fq} (ha : QB 1000 a) (hb : QB 1000 b) : a.den * b.den < 2 ^ 3000 := Nat.lt_of_lt_of_le (mul_lt_pow ha.db hb.db) (pow_le (by decide))
theorem ok_added {f : Addr} {fd : FuncData} (F : Fun K "added" "added" s_added f fd) (T : Txt K mg C) (D_ratio : Def P w K mg base "ratio" 2 ["top", "bottom"] (sp_ratio C)) : FnOk P w K mg base CX0 3 f fd ["a", "b"] (sp_added C) := by
  refine F.ok sc_added (fun _ _ _ _ h => h.1) (fun cdv A outer s H vs Q E hr h => ?_)
  obtain ⟨-, h⟩ := h
  obtain ⟨pa, pb, a, b, rfl, ha, hb, qa, qb, -, k⟩ := h
  obtain ⟨a1, a2⟩ := qa.sm (by decide)
  obtain ⟨b1, b2⟩ := qb.sm (by decide)
  refine ⟨_, (pss_one (ps_ret (x_call D_ratio (hr.mono (by decide)) rfl (pa_cons (pe_op op_add (pe_op x_opmul (x_ixt (pv 0) pe_int) (x_ixt (pv 1) pe_int)) (pe_op x_opmul (x_ixt (pv 1) pe_int) (x_ixt (pv 0) pe_int))) (pa_cons (pe_op x_opmul (x_ixt (pv 0) pe_int) (x_ixt (pv 1) pe_int)) pa_nil))))), ?_⟩
  refine ⟨_, rfl, _, IxT.a ha, _, rfl, _, IxT.b hb, _, _, rfl, rfl, ⟨a1, b2⟩, _, rfl, _, IxT.a hb, _, rfl, _, IxT.b ha, _, _, rfl, rfl, ⟨b1, a2⟩, _, _, rfl, rfl, _, rfl, _, IxT.b ha, _, rfl, _, IxT.b hb, _, _, rfl, rfl, ⟨a2, b2⟩, rfl, _, a.den * b.den, ?_, Nat.mul_pos qa.dp qb.dp, mul3000 qa qb, fun p H' s f => k p H' s f⟩
  rw [Int.natCast_mul]
theorem ok_subtracted {f : Addr} {fd : FuncData} (F : Fun K "subtracted" "subtracted" s_subtracted f fd) (T : Txt K mg C) (D_ratio : Def P w K mg base "ratio" 2 ["top", "bottom"] (sp_ratio C)) : FnOk P w K mg base CX0 3 f fd ["a", "b"] (sp_subtracted C) := by
  refine F.ok sc_subtracted (fun _ _ _ _ h => h.1) (fun cdv A outer s H vs Q E hr h => ?_)
  obtain ⟨-, h⟩ := h
  obtain ⟨pa, pb, a, b, rfl, ha, hb, qa, qb, -, k⟩ := h
  obtain ⟨a1, a2⟩ := qa.sm (by decide)
  obtain ⟨b1, b2⟩ := qb.sm (by decide)
  refine ⟨_, (pss_one (ps_ret (x_call D_ratio (hr.mono (by decide)) rfl (pa_cons (pe_op op_sub (pe_op x_opmul (x_ixt (pv 0) pe_int) (x_ixt (pv 1) pe_int)) (pe_op x_opmul (x_ixt (pv 1) pe_int) (x_ixt (pv 0) pe_int))) (pa_cons (pe_op x_opmul (x_ixt (pv 0) pe_int) (x_ixt (pv 1) pe_int)) pa_nil))))), ?_⟩
  refine ⟨_, rfl, _, IxT.a ha, _, rfl, _, IxT.b hb, _, _, rfl, rfl, ⟨a1, b2⟩, _, rfl, _, IxT.a hb, _, rfl, _, IxT.b ha, _, _, rfl, rfl, ⟨b1, a2⟩, _, _, rfl, rfl, _, rfl, _, IxT.b ha, _, rfl, _, IxT.b hb, _, _, rfl, rfl, ⟨a2, b2⟩, rfl, a.num * (b.den : Int) - b.num * (a.den : Int), a.den * b.den, ?_, Nat.mul_pos qa.dp qb.dp, mul3000 qa qb, fun p H' s f => k p H' s ?_⟩
  · rw [Int.natCast_mul]
  · rw [subQ_eq]
    exact f
theorem ok_multiplied {f : Addr} {fd : FuncData} (F : Fun K "multiplied" "multiplied" s_multiplied f fd) (T : Txt K mg C) (D_ratio : Def P w K mg base "ratio" 2 ["top", "bottom"] (sp_ratio C)) : FnOk P w K mg base CX0 3 f fd ["a", "b"] (sp_multiplied C) := by
  refine F.ok sc_multiplied (fun _ _ _ _ h => h.1) (fun cdv A outer s H vs Q E hr h => ?_)
  obtain ⟨-, h⟩ := h
  obtain ⟨pa, pb, a, b, rfl, ha, hb, qa, qb, -, k⟩ := h
  obtain ⟨a1, a2⟩ := qa.sm (by decide)
  obtain ⟨b1, b2⟩ := qb.sm (by decide)
  refine ⟨_, (pss_one (ps_ret (x_call D_ratio (hr.mono (by decide)) rfl (pa_cons (pe_op x_opmul (x_ixt (pv 0) pe_int) (x_ixt (pv 1) pe_int)) (pa_cons (pe_op x_opmul (x_ixt (pv 0) pe_int) (x_ixt (pv 1) pe_int)) pa_nil))))), ?_⟩
  refine ⟨_, rfl, _, IxT.a ha, _, rfl, _, IxT.a hb, _, _, rfl, rfl, ⟨a1, b1⟩, _, rfl, _, IxT.b ha, _, rfl, _, IxT.b hb, _, _, rfl, rfl, ⟨a2, b2⟩, rfl, _, a.den * b.den, ?_, Nat.mul_pos qa.dp qb.dp, mul3000 qa qb, fun p H' s f => k p H' s f⟩
  rw [Int.natCast_mul]
theorem ok_divided {f : Addr} {fd : FuncData} (F : Fun K "divided" "divided" s_divided f fd) (T : Txt K mg C) (D_ratio : Def P w K mg base "ratio" 2 ["top", "bottom"] (sp_ratio C)) : FnOk P w K mg base CX0 3 f fd ["a", "b"] (sp_divided C) := by
  refine F.ok sc_divided (fun _ _ _ _ h => h.1) (fun cdv A outer s H vs Q E hr h => ?_)
  obtain ⟨-, h⟩ := h
  obtain ⟨pa, pb, a, b, rfl, ha, hb, qa, qb, h0, k⟩ := h
  obtain ⟨a1, a2⟩ := qa.sm (by decide)
  obtain ⟨b1, b2⟩ := qb.sm (by decide)
  refine ⟨_, (pss_one (ps_ret (x_call D_ratio (hr.mono (by decide)) rfl (pa_cons (pe_op x_opmul (x_ixt (pv 0) pe_int) (x_ixt (pv 1) pe_int)) (pa_cons (pe_op x_opmul (x_ixt (pv 0) pe_int) (x_ixt (pv 1) pe_int)) pa_nil))))), ?_⟩
  have h0 : 0 < b.num := h0
  have e : b.num = (b.num.natAbs : Int) := by omega
  refine ⟨_, rfl, _, IxT.a ha, _, rfl, _, IxT.b hb, _, _, rfl, rfl, ⟨a1, b2⟩, _, rfl, _, IxT.b ha, _, rfl, _, IxT.a hb, _, _, rfl, rfl, ⟨a2, b1⟩, rfl, a.num * (b.den : Int), a.den * b.num.natAbs, ?_, Nat.mul_pos qa.dp (by omega), Nat.lt_of_lt_of_le (mul_lt_pow qa.db qb.nb) (pow_le (by decide)), fun p H' s f => k p H' s ?_⟩
  · rw [Int.natCast_mul, ← e]
  · rw [divQ_pos h0]
    exact f
theorem ok_is_below {f : Addr} {fd : FuncData} (F : Fun K "is_below" "is_below" s_is_below f fd) (T : Txt K mg C)  : FnOk P w K mg base CX0 1 f fd ["a", "b"] (sp_is_below C) := by
  refine F.ok sc_is_below (fun _ _ _ _ h => h.1) (fun cdv A outer s H vs Q E hr h => ?_)
  obtain ⟨-, h⟩ := h
  obtain ⟨pa, pb, a, b, rfl, ha, hb, qa, qb, k⟩ := h
  obtain ⟨a1, a2⟩ := qa.sm (by decide)
  obtain ⟨b1, b2⟩ := qb.sm (by decide)
  refine ⟨_, (pss_one (ps_ret (pe_cmpR op_lt (pe_op x_opmul (x_ixt (pv 0) pe_int) (x_ixt (pv 1) pe_int)) (pe_op x_opmul (x_ixt (pv 1) pe_int) (x_ixt (pv 0) pe_int)) (nomark _)))), ?_⟩
  exact ⟨_, rfl, _, IxT.a ha, _, rfl, _, IxT.b hb, _, _, rfl, rfl, ⟨a1, b2⟩, _, rfl, _, IxT.a hb, _, rfl, _, IxT.b ha, _, _, rfl, rfl, ⟨b1, a2⟩, _, _, rfl, rfl, k⟩
theorem ok_rounded_down {f : Addr} {fd : FuncData} (F : Fun K "rounded_down" "rounded_down" s_rounded_down f fd) (T : Txt K mg C)  : FnOk P w K mg base CX0 1 f fd ["a"] (sp_rounded_down C) := by
  refine F.ok sc_rounded_down (fun _ _ _ _ h => h.1) (fun cdv A outer s H vs Q E hr h => ?_)
  obtain ⟨-, h⟩ := h
  obtain ⟨p, a, rfl, ha, qa, k⟩ := h
  obtain ⟨a1, a2⟩ := qa.sm (by decide)
  refine ⟨_, (pss_one (ps_ret (pe_op x_opdiv (x_ixt (pv 0) pe_int) (x_ixt (pv 0) pe_int)))), ?_⟩
  have := qa.dp
  exact ⟨_, rfl, _, IxT.a ha, _, rfl, _, IxT.b ha, _, _, rfl, rfl, ⟨by show (0 : Int) < _; omega, a2⟩, k⟩
theorem len_txt {z : Int} (h : z.natAbs < 2 ^ 1000) : (Str.ofString (toString z)).length ≤ 2001 := by
  rw [PySem.ofString_length]
  exact PySem.int_text_length_le (k := 2000) (by decide) (Nat.lt_of_lt_of_le (log2_lt (n := 1000) (by decide) h) (by decide))
theorem ok_ratio_text {f : Addr} {fd : FuncData} (F : Fun K "ratio_text" "ratio_text" s_ratio_text f fd) (T : Txt K mg C)  : FnOk P w K mg base CX0 1 f fd ["a"] (sp_ratio_text C) := by
  refine F.ok sc_ratio_text (fun _ _ _ _ h => h.1) (fun cdv A outer s H vs Q E hr h => ?_)
  obtain ⟨-, h⟩ := h
  obtain ⟨p, a, rfl, ha, qa, k⟩ := h
  refine ⟨_, (pss_cons (ps_if (pt_cmpR x_opeq (x_ixt (pv 0) pe_int) pe_int (nomark _)) (pss_one (ps_ret (x_str rfl T.b_str (pa_cons (x_ixt (pv 0) pe_int) pa_nil)))) pss_nil) (pss_one (ps_ret (pe_op op_add_str (pe_op op_add_str (x_str rfl T.b_str (pa_cons (x_ixt (pv 0) pe_int) pa_nil)) pe_str) (x_str rfl T.b_str (pa_cons (x_ixt (pv 0) pe_int) pa_nil)))))), ?_⟩
  have l1 : a.num.natAbs.log2 < 1920 := Nat.lt_of_lt_of_le (log2_lt (n := 1000) (by decide) qa.nb) (by decide)
  have db : ((a.den : Int)).natAbs < 2 ^ 1000 := by rw [Int.natAbs_natCast]; exact qa.db
  have l2 : ((a.den : Int)).natAbs.log2 < 1920 := Nat.lt_of_lt_of_le (log2_lt (n := 1000) (by decide) db) (by decide)
  have e1 := len_txt qa.nb
  have e2 := len_txt db
  have e3 : (Str.ofString "/").length = 1 := by decide +kernel
  unfold txtQ at k
  refine ⟨_, rfl, _, IxT.b ha, _, _, rfl, rfl, _, rfl, ifB (fun h1 => ?_) (fun h1 => ?_)⟩
  · rw [if_pos (by omega)] at k
    exact ⟨_, rfl, _, IxT.a ha, _, rfl, l1, k⟩
  · rw [if_neg (by omega)] at k
    refine ⟨_, rfl, _, IxT.a ha, _, rfl, l1, _, _, rfl, rfl, small_len ?_, _, rfl, _, IxT.b ha, _, rfl, l2, _, _, rfl, rfl, small_len ?_, k⟩
    · rw [e3]; omega
    · rw [PySem.strLen_append, e3]; omega
end
end Tw
set_option Elab.async false
set_option linter.all false
set_option maxRecDepth 100000
set_option maxHeartbeats 2000000
namespace Tw
open PySem PySem.Spec PyProof.Rows L2 L3
theorem IxL.n {K : PySem.W.Frag} {H : Hp} {p : Addr} {xs : List V} {z : Int} {j : Nat} {v : V} (h : H p = some (.lst xs)) (e : z = (j : Int)) (hx : xs[j]? = some v) : IxL K H (.ref p) (.int z) v := ⟨p, xs, z, rfl, rfl, SqL.of h, at_of e hx⟩
theorem sm2 : Sm 3000 2 := sm_of (n := 2) (by decide) (by decide)
theorem drop_cons {α : Type} {l : List α} {i : Nat} {a : α} (h : l[i]? = some a) : l.drop i = a :: l.drop (i + 1) := by
  obtain ⟨h1, h2⟩ := List.getElem?_eq_some_iff.mp h
  rw [List.drop_eq_getElem_cons h1, h2]
theorem some_at {α : Type} {l : List α} {i : Nat} (h : i < l.length) : ∃ a, l[i]? = some a := ⟨l[i], List.getElem?_eq_getElem h⟩
theorem ref_at {H : Hp} {ps : List Addr} {l : List (Int × Int)} (h : PtsAt H ps l) {i : Nat} {c : Int × Int} (hc : l[i]? = some c) : ∃ p, (ps.map V.ref)[i]? = some (.ref p) ∧ H p = some (.tup [.int c.1, .int c.2]) := by
  have hi : i < ps.length := by rw [h.1]; exact (List.getElem?_eq_some_iff.mp hc).1
  obtain ⟨p, hp⟩ := some_at hi
  exact ⟨p, by rw [List.getElem?_map, hp]; rfl, h.2 i p c hp hc⟩
theorem okset_iff {w t m z d lo hi : Int} : okset w t m z d lo hi = true ↔ (w = 1 ∨ w = 3 ∨ w = 5) ∧ (0 ≤ t ∧ t ≤ 1000000000) ∧ (1 ≤ m ∧ m ≤ 100) ∧ (z = 0 ∨ (2 ≤ z ∧ z ≤ 1000)) ∧ (0 ≤ d ∧ d ≤ 2) ∧ (0 ≤ lo ∧ lo ≤ 65535) ∧ lo ≤ hi ∧ hi ≤ 65535 := by
  simp only [okset, Bool.and_eq_true, Bool.or_eq_true, beq_iff_eq, within_iff, isCount_iff, MOST_eq, TOP_eq]
section
variable {P : Program} {w : World} {K : PySem.W.Frag} {mg : Str → Option Value} {base : Heap} {C : Cs}
theorem ok_middle_one {f : Addr} {fd : FuncData} (F : Fun K "middle_one" "middle_one" s_middle_one f fd) (T : Txt K mg C)  : FnOk P w K mg base CX0 1 f fd ["numbers"] (sp_middle_one C) := by
  refine F.ok sc_middle_one (fun _ _ _ _ h => h.1) (fun cdv A outer s H vs Q E hr h => ?_)
  obtain ⟨-, h⟩ := h
  obtain ⟨p, ns, m, rfl, hp, hl, hm, k⟩ := h
  refine ⟨_, (pss_cons (ps_set (i := 1) sc_middle_one.nd rfl (Or.inl rfl) (pe_callB x_calsorted (by rfl) T.b_sorted boot_sorted' (pa_cons (pv 0) pa_nil))) (pss_one (ps_ret (x_ixl (pv 1) (pe_op x_opdiv (pe_op op_sub (pe_callB x_callen (by rfl) T.b_len boot_len' (pa_cons (pv 1) pa_nil)) pe_int) pe_int))))), ?_⟩
  refine ⟨_, rfl, ns, ⟨p, rfl, SqL.of hp⟩, hl, fun ns' r H2 hP hS hN => ?_⟩
  have e := middle_of hP hS
  rw [hm] at e
  have hlt := (List.getElem?_eq_some_iff.mp e.symm).1
  refine ⟨_, rfl, _, rfl, _, LenF.l hN.at_, _, _, rfl, rfl, _, _, rfl, rfl, ⟨by decide, sm2⟩, .int m, IxL.n (j := (ns'.length - 1) / 2) hN.at_ ?_ ?_, k _ hN.same⟩
  · rw [List.length_map]
    omega
  · rw [List.getElem?_map, ← e]
    rfl
theorem ok_are_settings {f : Addr} {fd : FuncData} (F : Fun K "are_settings" "are_settings" s_are_settings f fd) (T : Txt K mg C)  : FnOk P w K mg base CX0 1 f fd ["given"] (sp_are_settings C) := by
  refine F.ok sc_are_settings (fun _ _ _ _ h => h.1) (fun cdv A outer s H vs Q E hr h => ?_)
  obtain ⟨-, h⟩ := h
  obtain ⟨g, w, t, m, z, d, lo, hi, rfl, hg, k⟩ := h
  refine ⟨_, (pss_cons (ps_if (pt_cmpR op_notIn_seq (x_ixl (pv 0) pe_int) (x_tup (pa_cons pe_int (pa_cons pe_int (pa_cons pe_int pa_nil)))) (by with_unfolding_all rfl)) (pss_one (ps_ret pe_bl)) pss_nil) (pss_cons (ps_if (pt_not (pt_chain op_le op_le pe_int (x_ixl (pv 0) pe_int) (x_gc rfl T.c_VALUE_BOUND))) (pss_one (ps_ret pe_bl)) pss_nil) (pss_cons (ps_if (pt_not (pt_chain op_le op_le pe_int (x_ixl (pv 0) pe_int) pe_int)) (pss_one (ps_ret pe_bl)) pss_nil) (pss_cons (ps_if (PW.pt (pw_and (pt_cmpR x_opne (x_ixl (pv 0) pe_int) pe_int (nomark _)) (pw_and1 (pt_not (pt_chain op_le op_le pe_int (x_ixl (pv 0) pe_int) pe_int))))) (pss_one (ps_ret pe_bl)) pss_nil) (pss_cons (ps_if (pt_not (pt_chain op_le op_le pe_int (x_ixl (pv 0) pe_int) pe_int)) (pss_one (ps_ret pe_bl)) pss_nil) (pss_one (ps_ret (pe_chain3 op_le op_le op_le pe_int (x_ixl (pv 0) pe_int) (x_ixl (pv 0) pe_int) (x_gc rfl T.c_LAST_COUNT) )))))))), ?_⟩
  refine ⟨_, rfl, _, IxL.k0 hg, small_len (by simp), fun p H2 hN => ⟨p, _, rfl, .inr (SqT.of hN.at_), rfl, rfl, _, rfl, ?_⟩⟩
  have hg2 := hN.same _ _ hg
  have k' := k H2 hN.same
  have no : ¬ ((w = 1 ∨ w = 3 ∨ w = 5) ∧ (0 ≤ t ∧ t ≤ 1000000000) ∧ (1 ≤ m ∧ m ≤ 100) ∧ (z = 0 ∨ (2 ≤ z ∧ z ≤ 1000)) ∧ (0 ≤ d ∧ d ≤ 2) ∧ (0 ≤ lo ∧ lo ≤ 65535) ∧ lo ≤ hi ∧ hi ≤ 65535) → Q (.bl false) H2 := fun hn => Qb k' (by
    rw [← Bool.not_eq_true, okset_iff]
    exact hn)
  show if (!inV (.int w) [.int 1, .int 3, .int 5]) = true then _ else _
  have ew : inV (.int w) [.int 1, .int 3, .int 5] = true ↔ (w = 1 ∨ w = 3 ∨ w = 5) := by
    show (((1 : Int) == w) || (((3 : Int) == w) || (((5 : Int) == w) || false))) = true ↔ _
    simp only [Bool.or_eq_true, beq_iff_eq, Bool.false_eq_true, or_false]
    omega
  refine ifCN (fun h0 => no ?_) (fun h0 => ?_)
  · rw [← Bool.not_eq_true, ew] at h0
    omega
  rw [ew] at h0
  refine ⟨_, rfl, _, IxL.k1 hg2, _, _, rfl, rfl, _, rfl, ifB (fun h1 => ⟨_, _, rfl, rfl, _, rfl, ifN (fun h2 => no (by omega)) (fun h2 => ?_)⟩) (fun h1 => ⟨_, rfl, iteT (no (by omega))⟩)⟩
  refine ⟨_, rfl, _, IxL.k2 hg2, _, _, rfl, rfl, _, rfl, ifB (fun h3 => ⟨_, _, rfl, rfl, _, rfl, ifN (fun h4 => no (by omega)) (fun h4 => ?_)⟩) (fun h3 => ⟨_, rfl, iteT (no (by omega))⟩)⟩
  refine ⟨_, rfl, _, IxL.k3 hg2, _, _, rfl, rfl, _, rfl, ifN (fun h5 => ⟨_, rfl, _, IxL.k3 hg2, _, _, rfl, rfl, _, rfl, ifB (fun h6 => ⟨_, _, rfl, rfl, _, rfl, ifN (fun h7 => no (by omega)) (fun h7 => ?_)⟩) (fun h6 => ⟨_, rfl, iteT (no (by omega))⟩)⟩) (fun h5 => iteF ?_)⟩
  all_goals
    have hz : z = 0 ∨ (2 ≤ z ∧ z ≤ 1000) := by omega
    refine ⟨_, rfl, _, IxL.k4 hg2, _, _, rfl, rfl, _, rfl, ifB (fun h5 => ⟨_, _, rfl, rfl, _, rfl, ifN (fun h6 => no (by omega)) (fun h6 => ?_)⟩) (fun h5 => ⟨_, rfl, iteT (no (by omega))⟩)⟩
    refine ⟨_, rfl, _, IxL.k5 hg2, _, _, rfl, rfl, _, rfl, ifB (fun h7 => ⟨_, rfl, _, IxL.k6 hg2, _, _, rfl, rfl, _, rfl, ifB (fun h8 => ⟨_, _, rfl, rfl, Qb k' ?_⟩) (fun h8 => no (by omega))⟩) (fun h7 => no (by omega))⟩
    apply Bool.eq_iff_iff.mpr
    rw [okset_iff, decide_eq_true_eq]
    omega
theorem ok_points_rise {f : Addr} {fd : FuncData} (F : Fun K "points_rise" "points_rise" s_points_rise f fd) (T : Txt K mg C)  : FnOk P w K mg base CX0 1 f fd ["points"] (sp_points_rise C) := by
  refine F.ok sc_points_rise (fun _ _ _ _ h => h.1) (fun cdv A outer s H vs Q E hr h => ?_)
  obtain ⟨-, h⟩ := h
  obtain ⟨a, l, rfl, ⟨ps, hp, hl⟩, h0, h1000, k⟩ := h
  refine ⟨_, (pss_cons (ps_for PassesOwn.never rfl (pi_range2 rfl T.b_range (pa_cons pe_int (pa_cons (pe_callB x_callen (by rfl) T.b_len boot_len' (pa_cons (pv 0) pa_nil)) pa_nil))) (pg_name (i := 1) sc_points_rise.nd rfl (Or.inl rfl)) (pss_one (ps_if (PW.pt (pw_or (pt_cmpR op_le (x_ixt (x_ixl (pv 0) (pv 1)) pe_int) (x_ixt (x_ixl (pv 0) (pe_op op_sub (pv 1) pe_int)) pe_int) (nomark _)) (pw_or1 (pt_cmpR op_le (x_ixt (x_ixl (pv 0) (pv 1)) pe_int) (x_ixt (x_ixl (pv 0) (pe_op op_sub (pv 1) pe_int)) pe_int) (nomark _))))) (pss_one (ps_ret pe_bl)) pss_nil))) (pss_one (ps_ret pe_bl))), ?_⟩
  have hlen : (ps.map V.ref).length = l.length := by rw [List.length_map, hl.1]
  refine ⟨_, rfl, _, LenF.l hp, _, _, rfl, ⟨by decide, by decide, by omega, by omega⟩, for_range (lo := 1) (n := (((ps.map V.ref).length : Int) - 1).toNat) (fun i σ H' => H' = H ∧ (∃ v, σ = [some (.ref a), v]) ∧ Vbdlac.rising l = Vbdlac.rising (l.drop i)) ⟨rfl, ⟨none, rfl⟩, rfl⟩ ?_ ?_⟩
  · rintro i σ H' hi ⟨rfl, ⟨v, rfl⟩, hr⟩
    have hi2 : i + 1 < l.length := by omega
    obtain ⟨x, hx⟩ := some_at (show i < l.length by omega)
    obtain ⟨y, hy⟩ := some_at hi2
    obtain ⟨px, ex, hpx⟩ := ref_at hl hx
    obtain ⟨py, ey, hpy⟩ := ref_at hl hy
    rw [drop_cons hx, drop_cons hy] at hr
    have er : ∀ r, Vbdlac.rising (x :: y :: r) = (decide (x.1 < y.1) && (decide (x.2 < y.2) && Vbdlac.rising (y :: r))) := fun _ => rfl
    rw [er] at hr
    refine ⟨_, rfl, _, rfl, _, IxL.n (j := i + 1) hp (by omega) ey, _, IxT.a hpy, _, rfl, _, rfl, _, _, rfl, rfl, _, IxL.n (j := i) hp (by omega) ex, _, IxT.a hpx, _, _, rfl, rfl, _, rfl, ifB (fun h1 => ?_) (fun h1 => ?_)⟩
    · refine iteT (Qb k ?_)
      rw [hr, decide_eq_false (by omega)]
      rfl
    · refine ⟨_, rfl, _, rfl, _, IxL.n (j := i + 1) hp (by omega) ey, _, IxT.b hpy, _, rfl, _, rfl, _, _, rfl, rfl, _, IxL.n (j := i) hp (by omega) ex, _, IxT.b hpx, _, _, rfl, rfl, _, rfl, ifB (fun h2 => ?_) (fun h2 => ?_)⟩
      · refine Qb k ?_
        rw [hr, decide_eq_false (show ¬ x.2 < y.2 by omega), Bool.false_and, Bool.and_false]
      · refine ⟨rfl, ⟨_, rfl⟩, ?_⟩
        rw [hr, decide_eq_true (show x.1 < y.1 by omega), decide_eq_true (show x.2 < y.2 by omega), drop_cons hy]
        rfl
  · rintro σ H' ⟨rfl, ⟨v, rfl⟩, hr⟩
    refine Qb k ?_
    obtain ⟨x, hx⟩ := some_at (show l.length - 1 < l.length by omega)
    rw [hr, hlen, show (((l.length : Nat) : Int) - 1).toNat = l.length - 1 by omega, drop_cons hx, List.drop_eq_nil_of_le (by omega)]
    rfl
theorem ok_value_between {f : Addr} {fd : FuncData} (F : Fun K "value_between" "value_between" s_value_between f fd) (T : Txt K mg C) (D_ratio : Def P w K mg base "ratio" 2 ["top", "bottom"] (sp_ratio C)) : FnOk P w K mg base CX0 3 f fd ["before", "behind", "count"] (sp_value_between C) := by
  refine F.ok sc_value_between (fun _ _ _ _ h => h.1) (fun cdv A outer s H vs Q E hr h => ?_)
  obtain ⟨-, h⟩ := h
  obtain ⟨pa, pb, a, b, c, rfl, ha, hb, hlt, ⟨ca, cb, cc⟩, va, vb, k⟩ := h
  unfold Cnt at ca cb cc
  refine ⟨_, (pss_cons (ps_set (i := 3) sc_value_between.nd rfl (Or.inl rfl) (pe_op op_sub (x_ixt (pv 1) pe_int) (x_ixt (pv 0) pe_int))) (pss_cons (ps_set (i := 4) sc_value_between.nd rfl (Or.inl rfl) (pe_op op_sub (x_ixt (pv 1) pe_int) (x_ixt (pv 0) pe_int))) (pss_one (ps_ret (x_call D_ratio (hr.mono (by decide)) rfl (pa_cons (pe_op op_add (pe_op x_opmul (x_ixt (pv 0) pe_int) (pv 3)) (pe_op x_opmul (pe_op op_sub (pv 2) (x_ixt (pv 0) pe_int)) (pv 4))) (pa_cons (pv 3) pa_nil))))))), ?_⟩
  refine ⟨_, rfl, _, IxT.a hb, _, rfl, _, IxT.a ha, _, _, rfl, rfl, ?_⟩
  refine ⟨_, rfl, _, IxT.b hb, _, rfl, _, IxT.b ha, _, _, rfl, rfl, ?_⟩
  have s1 : Sm 3000 a.2 := sm_of (n := 40) (by omega) (by decide)
  have s2 : Sm 3000 (b.1 - a.1) := sm_of (n := 40) (by omega) (by decide)
  have s3 : Sm 3000 (c - a.1) := sm_of (n := 40) (by omega) (by decide)
  have s4 : Sm 3000 (b.2 - a.2) := sm_of (n := 40) (by omega) (by decide)
  refine ⟨_, rfl, _, IxT.b ha, _, rfl, _, _, rfl, rfl, ⟨s1, s2⟩, _, rfl, _, rfl, _, IxT.a ha, _, _, rfl, rfl, _, rfl, _, _, rfl, rfl, ⟨s3, s4⟩, _, _, rfl, rfl, _, rfl, rfl, a.2 * (b.1 - a.1) + (c - a.1) * (b.2 - a.2), (b.1 - a.1).toNat, ?_, by omega, ?_, fun p H' s f => k p H' s f⟩
  · rw [show (((b.1 - a.1).toNat : Nat) : Int) = b.1 - a.1 by omega]
  · exact Nat.lt_of_lt_of_le (show (b.1 - a.1).toNat < 2 ^ 40 by omega) (pow_le (by decide))
theorem ok_table_value {f : Addr} {fd : FuncData} (F : Fun K "table_value" "table_value" s_table_value f fd) (T : Txt K mg C) (D_whole : Def P w K mg base "whole" 1 ["number"] (sp_whole C)) (D_value_between : Def P w K mg base "value_between" 3 ["before", "behind", "count"] (sp_value_between C)) : FnOk P w K mg base CX0 4 f fd ["points", "count"] (sp_table_value C) := by
  refine F.ok sc_table_value (fun _ _ _ _ h => h.1) (fun cdv A outer s H vs Q E hr h => ?_)
  obtain ⟨-, h⟩ := h
  obtain ⟨pl, l, c, rfl, ⟨ps, hp, hl⟩, ok, hc, k⟩ := h
  refine ⟨_, (pss_cons (ps_if (pt_cmpR op_le (pv 1) (x_ixt (x_ixl (pv 0) pe_int) pe_int) (nomark _)) (pss_one (ps_ret (x_call D_whole (hr.mono (by decide)) rfl (pa_cons (x_ixt (x_ixl (pv 0) pe_int) pe_int) pa_nil)))) pss_nil) (pss_cons (ps_for PassesOwn.never rfl (pi_range2 rfl T.b_range (pa_cons pe_int (pa_cons (pe_callB x_callen (by rfl) T.b_len boot_len' (pa_cons (pv 0) pa_nil)) pa_nil))) (pg_name (i := 2) sc_table_value.nd rfl (Or.inl rfl)) (pss_one (ps_if (pt_cmpR op_lt (pv 1) (x_ixt (x_ixl (pv 0) (pv 2)) pe_int) (nomark _)) (pss_one (ps_ret (x_call D_value_between (hr.mono (by decide)) rfl (pa_cons (x_ixl (pv 0) (pe_op op_sub (pv 2) pe_int)) (pa_cons (x_ixl (pv 0) (pv 2)) (pa_cons (pv 1) pa_nil)))))) pss_nil))) (pss_one (ps_ret (x_call D_whole (hr.mono (by decide)) rfl (pa_cons (x_ixt (x_ixl (pv 0) (pe_op op_sub (pe_callB x_callen (by rfl) T.b_len boot_len' (pa_cons (pv 0) pa_nil)) pe_int)) pe_int) pa_nil)))))), ?_⟩
  have h2 := ok.lo
  have h8 := ok.hi
  have hlen : (ps.map V.ref).length = l.length := by rw [List.length_map, hl.1]
  obtain ⟨x0, hx0⟩ := some_at (show 0 < l.length by omega)
  obtain ⟨p0, e0, hp0⟩ := ref_at hl hx0
  have hd0 := drop_cons hx0
  rw [List.drop_zero] at hd0
  refine ⟨_, rfl, _, rfl, _, IxL.n (j := 0) hp rfl e0, _, IxT.a hp0, _, _, rfl, rfl, _, rfl, ifB (fun h1 => ?_) (fun h1 => ?_)⟩
  · refine ⟨_, rfl, _, IxL.n (j := 0) hp rfl e0, _, IxT.b hp0, rfl, _, rfl, fun p H' s f => k p H' s ?_⟩
    rw [hd0, interp_first h1]
    exact f
  · refine ⟨_, rfl, _, LenF.l hp, _, _, rfl, ⟨by decide, by decide, by omega, by omega⟩, for_range (lo := 1) (n := (((ps.map V.ref).length : Int) - 1).toNat) (fun i σ H' => H' = H ∧ (∃ v, σ = [some (.ref pl), some (.int c), v]) ∧ Vbdlac.interp l c = Vbdlac.interp (l.drop i) c ∧ Vbdlac.rising (l.drop i) = true ∧ ∀ x, l[i]? = some x → x.1 ≤ c) ⟨rfl, ⟨none, rfl⟩, rfl, ok.rise, ?_⟩ ?_ ?_⟩
    · intro x hx
      rw [hx0] at hx
      cases hx
      omega
    · rintro i σ H' hi ⟨rfl, ⟨v, rfl⟩, hr, hri, hx1⟩
      have hi2 : i + 1 < l.length := by omega
      obtain ⟨x, hx⟩ := some_at (show i < l.length by omega)
      obtain ⟨y, hy⟩ := some_at hi2
      obtain ⟨px, ex, hpx⟩ := ref_at hl hx
      obtain ⟨py, ey, hpy⟩ := ref_at hl hy
      have dx := drop_cons hx
      have dy := drop_cons hy
      rw [dx, dy] at hr hri
      obtain ⟨r1, r2, r3⟩ := rising_cons hri
      have hxc := hx1 x hx
      have mx := List.mem_of_getElem? hx
      have my := List.mem_of_getElem? hy
      refine ⟨_, rfl, _, rfl, _, rfl, _, IxL.n (j := i + 1) hp (by omega) ey, _, IxT.a hpy, _, _, rfl, rfl, _, rfl, ifB (fun h3 => ?_) (fun h3 => ?_)⟩
      · refine ⟨_, rfl, _, rfl, _, _, rfl, rfl, _, IxL.n (j := i) hp (by omega) ex, _, rfl, _, rfl, _, IxL.n (j := i + 1) hp (by omega) ey, _, rfl, rfl, px, py, x, y, c, rfl, hpx, hpy, r1, ⟨ok.cs x mx, ok.cs y my, hc⟩, ok.vs x mx, ok.vs y my, fun p H' s f => k p H' s ?_⟩
        rw [hr, interp_hit r1 hxc h3]
        exact f
      · refine ⟨rfl, ⟨_, rfl⟩, ?_, ?_, ?_⟩
        · rw [hr, interp_skip r1 (by omega), dy]
        · rw [dy]
          exact r3
        · intro z hz
          rw [hy] at hz
          cases hz
          omega
    · rintro σ H' ⟨rfl, ⟨v, rfl⟩, hr, hri, hx1⟩
      obtain ⟨x, hx⟩ := some_at (show l.length - 1 < l.length by omega)
      obtain ⟨px, ex, hpx⟩ := ref_at hl hx
      have en : (((ps.map V.ref).length : Int) - 1).toNat = l.length - 1 := by omega
      refine ⟨_, rfl, _, rfl, _, LenF.l hp, _, _, rfl, rfl, _, IxL.n (j := l.length - 1) hp (by omega) ex, _, IxT.b hpx, rfl, _, rfl, fun p H' s f => k p H' s ?_⟩
      rw [hr, en, drop_cons hx, List.drop_eq_nil_of_le (by omega)]
      exact f
theorem ok_is_too_large {f : Addr} {fd : FuncData} (F : Fun K "is_too_large" "is_too_large" s_is_too_large f fd) (T : Txt K mg C)  : FnOk P w K mg base CX0 1 f fd ["fraction"] (sp_is_too_large C) := by
  refine F.ok sc_is_too_large (fun _ _ _ _ h => h.1) (fun cdv A outer s H vs Q E hr h => ?_)
  obtain ⟨-, h⟩ := h
  obtain ⟨p, a, rfl, ha, k⟩ := h
  refine ⟨_, (pss_one (ps_ret (pe_or (pe_cmpR op_ge (pe_callB call_abs (by rfl) T.b_abs boot_abs' (pa_cons (x_ixt (pv 0) pe_int) pa_nil)) (x_gc rfl T.c_CORRECTION_BOUND) (nomark _)) (pe_one (pe_cmpR op_ge (x_ixt (pv 0) pe_int) (x_gc rfl T.c_CORRECTION_BOUND) (nomark _)))))), ?_⟩
  have e : (if a.num < 0 then -a.num else a.num) = (a.num.natAbs : Int) := by split <;> omega
  have ef : Vbdlac.fine a = true ↔ (a.num.natAbs < 1000000000000 ∧ a.den < 1000000000000) := by
    unfold Vbdlac.fine Vbdlac.FINE
    rw [Bool.and_eq_true, decide_eq_true_eq, decide_eq_true_eq]
  refine ⟨_, rfl, _, IxT.a ha, _, rfl, _, _, rfl, rfl, _, rfl, ifB (fun h1 => Qb k ?_) (fun h1 => ⟨_, rfl, _, IxT.b ha, _, _, rfl, rfl, Qb k ?_⟩)⟩
  · rw [e] at h1
    have : Vbdlac.fine a = false := by
      rw [← Bool.not_eq_true, ef]
      omega
    rw [this]
    rfl
  · rw [e] at h1
    apply Bool.eq_iff_iff.mpr
    rw [Bool.not_eq_true', ← Bool.not_eq_true, ef, decide_eq_true_eq]
    omega
theorem ok_can_search {f : Addr} {fd : FuncData} (F : Fun K "can_search" "can_search" s_can_search f fd) (T : Txt K mg C) (D_is_count : Def P w K mg base "is_count" 1 ["number"] (sp_is_count C)) : FnOk P w K mg base CX0 2 f fd ["n", "k", "v"] (sp_can_search C) := by
  refine F.ok sc_can_search (fun _ _ _ _ h => h.1) (fun cdv A outer s H vs Q E hr h => ?_)
  obtain ⟨-, h⟩ := h
  obtain ⟨n, k, v, rfl, q⟩ := h
  refine ⟨_, (pss_cons (ps_if (pt_not (PW.pt (pw_and (pt_val (x_call D_is_count (hr.mono (by decide)) rfl (pa_cons (pv 0) pa_nil))) (pw_and (pt_chain op_le op_le pe_int (pv 1) (x_gc rfl T.c_MOST_SEARCHED)) (pw_and1 (pt_cmpR op_le (pe_op op_add (pv 0) (pv 1)) (x_gc rfl T.c_COUNTS_IN_ALL) (nomark _))))))) (pss_one (ps_ret pe_bl)) pss_nil) (pss_one (ps_ret (pe_chain op_le op_le (pe_un un_neg (x_gc rfl T.c_SEARCH_BOUND)) (pv 2) (x_gc rfl T.c_SEARCH_BOUND))))), ?_⟩
  have iff1 : (Vbdlac.isCount n && (Vbdlac.within k 1 1000 && (decide (n + k ≤ Vbdlac.TOP + 1) && Vbdlac.within v (-Vbdlac.HUGE) Vbdlac.HUGE))) = true ↔ (0 ≤ n ∧ n ≤ 65535) ∧ (1 ≤ k ∧ k ≤ 1000) ∧ n + k ≤ 65536 ∧ -1000000000000 ≤ v ∧ v ≤ 1000000000000 := by
    simp only [Bool.and_eq_true, isCount_iff, within_iff, decide_eq_true_eq]
    exact Iff.rfl
  have no : ¬ ((0 ≤ n ∧ n ≤ 65535) ∧ (1 ≤ k ∧ k ≤ 1000) ∧ n + k ≤ 65536 ∧ -1000000000000 ≤ v ∧ v ≤ 1000000000000) → Q (.bl false) H := fun hn => Qb q (by
    rw [← Bool.not_eq_true, iff1]
    exact hn)
  have cn : Vbdlac.isCount n = true ↔ (0 ≤ n ∧ n ≤ 65535) := isCount_iff
  refine ⟨_, rfl, rfl, _, rfl, _, rfl, ifC (fun h1 => ?_) (fun h1 => iteT (no (by rw [← Bool.not_eq_true, cn] at h1; omega)))⟩
  rw [cn] at h1
  refine ⟨_, rfl, _, _, rfl, rfl, _, rfl, ifB (fun h2 => ⟨_, _, rfl, rfl, _, rfl, ifB (fun h3 => ?_) (fun h3 => iteT (no (by omega)))⟩) (fun h2 => ⟨_, rfl, iteF (iteT (no (by omega)))⟩)⟩
  refine ⟨_, rfl, _, rfl, _, _, rfl, rfl, _, _, rfl, rfl, _, rfl, ifN (fun h4 => no (by omega)) (fun h4 => ?_)⟩
  refine ⟨_, rfl, _, rfl, _, _, rfl, rfl, _, rfl, ifB (fun h5 => ⟨_, _, rfl, rfl, Qb q ?_⟩) (fun h5 => no (by omega))⟩
  apply Bool.eq_iff_iff.mpr
  rw [iff1, decide_eq_true_eq]
  omega
theorem ok_number_if_any {f : Addr} {fd : FuncData} (F : Fun K "number_if_any" "number_if_any" s_number_if_any f fd) (T : Txt K mg C)  : FnOk P w K mg base CX0 1 f fd ["number"] (sp_number_if_any C) := by
  refine F.ok sc_number_if_any (fun _ _ _ _ h => h.1) (fun cdv A outer s H vs Q E hr h => ?_)
  obtain ⟨-, h⟩ := h
  obtain ⟨o, rfl, k⟩ := h
  refine ⟨_, (pss_cons (ps_if (pt_cmpR op_isN (pv 0) pe_non (nomark _)) (pss_one (ps_ret (x_lst (pa_cons pe_int (pa_cons pe_int pa_nil))))) pss_nil) (pss_one (ps_ret (x_lst (pa_cons pe_int (pa_cons (pv 0) pa_nil)))))), ?_⟩
  cases o with
  | none => exact ⟨_, rfl, rfl, _, rfl, iteT ⟨small_len (by simp), fun p H2 hN => k p H2 hN⟩⟩
  | some v => exact ⟨_, rfl, rfl, _, rfl, iteF ⟨_, rfl, small_len (by simp), fun p H2 hN => k p H2 hN⟩⟩
end
end Tw
set_option Elab.async false
set_option linter.all false
set_option maxRecDepth 100000
set_option maxHeartbeats 2000000
namespace Tw
open PySem PySem.Spec PyProof.Rows L2 L3
section
variable {K : PySem.W.Frag} {mg : Str → Option Value} {C : Cs} {H : Hp}
theorem chf_settings (T : Txt K mg C) {x dx st g o w : Addr} {a u t : Int} (h : H x = some (.ins C.ch dx (chF st g o w a u t))) : FldR K H (.ref x) "settings" (.ref st) := ⟨x, C.ch, dx, _, rfl, h, T.cl_ch, T.n_ch_settings, rfl⟩
theorem chf_gain (T : Txt K mg C) {x dx st g o w : Addr} {a u t : Int} (h : H x = some (.ins C.ch dx (chF st g o w a u t))) : FldR K H (.ref x) "gain" (.ref g) := ⟨x, C.ch, dx, _, rfl, h, T.cl_ch, T.n_ch_gain, rfl⟩
theorem chf_offset (T : Txt K mg C) {x dx st g o w : Addr} {a u t : Int} (h : H x = some (.ins C.ch dx (chF st g o w a u t))) : FldR K H (.ref x) "offset" (.ref o) := ⟨x, C.ch, dx, _, rfl, h, T.cl_ch, T.n_ch_offset, rfl⟩
theorem chf_window (T : Txt K mg C) {x dx st g o w : Addr} {a u t : Int} (h : H x = some (.ins C.ch dx (chF st g o w a u t))) : FldR K H (.ref x) "window" (.ref w) := ⟨x, C.ch, dx, _, rfl, h, T.cl_ch, T.n_ch_window, rfl⟩
theorem chf_alike (T : Txt K mg C) {x dx st g o w : Addr} {a u t : Int} (h : H x = some (.ins C.ch dx (chF st g o w a u t))) : FldR K H (.ref x) "alike" (.int a) := ⟨x, C.ch, dx, _, rfl, h, T.cl_ch, T.n_ch_alike, rfl⟩
theorem chf_out (T : Txt K mg C) {x dx st g o w : Addr} {a u t : Int} (h : H x = some (.ins C.ch dx (chF st g o w a u t))) : FldR K H (.ref x) "out" (.int u) := ⟨x, C.ch, dx, _, rfl, h, T.cl_ch, T.n_ch_out, rfl⟩
theorem chf_fault (T : Txt K mg C) {x dx st g o w : Addr} {a u t : Int} (h : H x = some (.ins C.ch dx (chF st g o w a u t))) : FldR K H (.ref x) "fault" (.int t) := ⟨x, C.ch, dx, _, rfl, h, T.cl_ch, T.n_ch_fault, rfl⟩
theorem ch_no (m : Str) {x dx st g o w : Addr} {a u t : Int} (h : H x = some (.ins C.ch dx (chF st g o w a u t))) (e : (chF st g o w a u t).lookup m = none := by rfl) : InsNo H (.ref x) C.ch m := ⟨x, dx, _, rfl, h, e⟩
theorem chp_gain (T : Txt K mg C) {x dx st g o w : Addr} {a u t : Int} (h : H x = some (.ins C.ch dx (chF st g o w a u t))) (g2 : Addr) : PutR K H (.ref x) "gain" (.ref g2) x C.ch dx (chF st g2 o w a u t) := ⟨_, rfl, h, T.cl_ch, T.n_ch_gain, (by show (7 : Nat) < 1000; decide), rfl⟩
theorem chp_offset (T : Txt K mg C) {x dx st g o w : Addr} {a u t : Int} (h : H x = some (.ins C.ch dx (chF st g o w a u t))) (o2 : Addr) : PutR K H (.ref x) "offset" (.ref o2) x C.ch dx (chF st g o2 w a u t) := ⟨_, rfl, h, T.cl_ch, T.n_ch_offset, (by show (7 : Nat) < 1000; decide), rfl⟩
theorem chp_window (T : Txt K mg C) {x dx st g o w : Addr} {a u t : Int} (h : H x = some (.ins C.ch dx (chF st g o w a u t))) (w2 : Addr) : PutR K H (.ref x) "window" (.ref w2) x C.ch dx (chF st g o w2 a u t) := ⟨_, rfl, h, T.cl_ch, T.n_ch_window, (by show (7 : Nat) < 1000; decide), rfl⟩
theorem chp_alike (T : Txt K mg C) {x dx st g o w : Addr} {a u t : Int} (h : H x = some (.ins C.ch dx (chF st g o w a u t))) (a2 : Int) : PutR K H (.ref x) "alike" (.int a2) x C.ch dx (chF st g o w a2 u t) := ⟨_, rfl, h, T.cl_ch, T.n_ch_alike, (by show (7 : Nat) < 1000; decide), rfl⟩
theorem chp_out (T : Txt K mg C) {x dx st g o w : Addr} {a u t : Int} (h : H x = some (.ins C.ch dx (chF st g o w a u t))) (u2 : Int) : PutR K H (.ref x) "out" (.int u2) x C.ch dx (chF st g o w a u2 t) := ⟨_, rfl, h, T.cl_ch, T.n_ch_out, (by show (7 : Nat) < 1000; decide), rfl⟩
theorem chp_fault (T : Txt K mg C) {x dx st g o w : Addr} {a u t : Int} (h : H x = some (.ins C.ch dx (chF st g o w a u t))) (t2 : Int) : PutR K H (.ref x) "fault" (.int t2) x C.ch dx (chF st g o w a u t2) := ⟨_, rfl, h, T.cl_ch, T.n_ch_fault, (by show (7 : Nat) < 1000; decide), rfl⟩
theorem stf_width (T : Txt K mg C) {x dx pl : Addr} {f : Fm} (h : H x = some (.ins C.st dx (stF f pl))) : FldR K H (.ref x) "width" (.int (f.width : Int)) := ⟨x, C.st, dx, _, rfl, h, T.cl_st, T.n_st_width, rfl⟩
theorem stf_tolerance (T : Txt K mg C) {x dx pl : Addr} {f : Fm} (h : H x = some (.ins C.st dx (stF f pl))) : FldR K H (.ref x) "tolerance" (.int f.tol) := ⟨x, C.st, dx, _, rfl, h, T.cl_st, T.n_st_tolerance, rfl⟩
theorem stf_times (T : Txt K mg C) {x dx pl : Addr} {f : Fm} (h : H x = some (.ins C.st dx (stF f pl))) : FldR K H (.ref x) "times" (.int (f.times : Int)) := ⟨x, C.st, dx, _, rfl, h, T.cl_st, T.n_st_times, rfl⟩
theorem stf_stuck (T : Txt K mg C) {x dx pl : Addr} {f : Fm} (h : H x = some (.ins C.st dx (stF f pl))) : FldR K H (.ref x) "stuck" (.int (f.stuck : Int)) := ⟨x, C.st, dx, _, rfl, h, T.cl_st, T.n_st_stuck, rfl⟩
theorem stf_side (T : Txt K mg C) {x dx pl : Addr} {f : Fm} (h : H x = some (.ins C.st dx (stF f pl))) : FldR K H (.ref x) "side" (.int (f.side : Int)) := ⟨x, C.st, dx, _, rfl, h, T.cl_st, T.n_st_side, rfl⟩
theorem stf_lo (T : Txt K mg C) {x dx pl : Addr} {f : Fm} (h : H x = some (.ins C.st dx (stF f pl))) : FldR K H (.ref x) "lo" (.int f.lo) := ⟨x, C.st, dx, _, rfl, h, T.cl_st, T.n_st_lo, rfl⟩
theorem stf_hi (T : Txt K mg C) {x dx pl : Addr} {f : Fm} (h : H x = some (.ins C.st dx (stF f pl))) : FldR K H (.ref x) "hi" (.int f.hi) := ⟨x, C.st, dx, _, rfl, h, T.cl_st, T.n_st_hi, rfl⟩
theorem stf_points (T : Txt K mg C) {x dx pl : Addr} {f : Fm} (h : H x = some (.ins C.st dx (stF f pl))) : FldR K H (.ref x) "points" (.ref pl) := ⟨x, C.st, dx, _, rfl, h, T.cl_st, T.n_st_points, rfl⟩
theorem st_no (m : Str) {x dx pl : Addr} {f : Fm} (h : H x = some (.ins C.st dx (stF f pl))) (e : (stF f pl).lookup m = none := by rfl) : InsNo H (.ref x) C.st m := ⟨x, dx, _, rfl, h, e⟩
theorem lif_low (T : Txt K mg C) {x dx : Addr} {l1 l2 l3 l4 l5 l6 : Int} (h : H x = some (.ins C.li dx (liF l1 l2 l3 l4 l5 l6))) : FldR K H (.ref x) "low" (.int l1) := ⟨x, C.li, dx, _, rfl, h, T.cl_li, T.n_li_low, rfl⟩
theorem lif_high (T : Txt K mg C) {x dx : Addr} {l1 l2 l3 l4 l5 l6 : Int} (h : H x = some (.ins C.li dx (liF l1 l2 l3 l4 l5 l6))) : FldR K H (.ref x) "high" (.int l2) := ⟨x, C.li, dx, _, rfl, h, T.cl_li, T.n_li_high, rfl⟩
theorem lif_back (T : Txt K mg C) {x dx : Addr} {l1 l2 l3 l4 l5 l6 : Int} (h : H x = some (.ins C.li dx (liF l1 l2 l3 l4 l5 l6))) : FldR K H (.ref x) "back" (.int l3) := ⟨x, C.li, dx, _, rfl, h, T.cl_li, T.n_li_back, rfl⟩
theorem lif_below (T : Txt K mg C) {x dx : Addr} {l1 l2 l3 l4 l5 l6 : Int} (h : H x = some (.ins C.li dx (liF l1 l2 l3 l4 l5 l6))) : FldR K H (.ref x) "below" (.int l4) := ⟨x, C.li, dx, _, rfl, h, T.cl_li, T.n_li_below, rfl⟩
theorem lif_above (T : Txt K mg C) {x dx : Addr} {l1 l2 l3 l4 l5 l6 : Int} (h : H x = some (.ins C.li dx (liF l1 l2 l3 l4 l5 l6))) : FldR K H (.ref x) "above" (.int l5) := ⟨x, C.li, dx, _, rfl, h, T.cl_li, T.n_li_above, rfl⟩
theorem lif_alarm (T : Txt K mg C) {x dx : Addr} {l1 l2 l3 l4 l5 l6 : Int} (h : H x = some (.ins C.li dx (liF l1 l2 l3 l4 l5 l6))) : FldR K H (.ref x) "alarm" (.int l6) := ⟨x, C.li, dx, _, rfl, h, T.cl_li, T.n_li_alarm, rfl⟩
theorem li_no (m : Str) {x dx : Addr} {l1 l2 l3 l4 l5 l6 : Int} (h : H x = some (.ins C.li dx (liF l1 l2 l3 l4 l5 l6))) (e : (liF l1 l2 l3 l4 l5 l6).lookup m = none := by rfl) : InsNo H (.ref x) C.li m := ⟨x, dx, _, rfl, h, e⟩
theorem lip_below (T : Txt K mg C) {x dx : Addr} {l1 l2 l3 l4 l5 l6 : Int} (h : H x = some (.ins C.li dx (liF l1 l2 l3 l4 l5 l6))) (m : Int) : PutR K H (.ref x) "below" (.int m) x C.li dx (liF l1 l2 l3 m l5 l6) := ⟨_, rfl, h, T.cl_li, T.n_li_below, (by show (6 : Nat) < 1000; decide), rfl⟩
theorem lip_above (T : Txt K mg C) {x dx : Addr} {l1 l2 l3 l4 l5 l6 : Int} (h : H x = some (.ins C.li dx (liF l1 l2 l3 l4 l5 l6))) (m : Int) : PutR K H (.ref x) "above" (.int m) x C.li dx (liF l1 l2 l3 l4 m l6) := ⟨_, rfl, h, T.cl_li, T.n_li_above, (by show (6 : Nat) < 1000; decide), rfl⟩
theorem lip_alarm (T : Txt K mg C) {x dx : Addr} {l1 l2 l3 l4 l5 l6 : Int} (h : H x = some (.ins C.li dx (liF l1 l2 l3 l4 l5 l6))) (m : Int) : PutR K H (.ref x) "alarm" (.int m) x C.li dx (liF l1 l2 l3 l4 l5 m) := ⟨_, rfl, h, T.cl_li, T.n_li_alarm, (by show (6 : Nat) < 1000; decide), rfl⟩
theorem sef_settings (T : Txt K mg C) {x dx st l : Addr} {u : Int} {lim : V} (h : H x = some (.ins C.se dx (seF st l u lim))) : FldR K H (.ref x) "settings" (.ref st) := ⟨x, C.se, dx, _, rfl, h, T.cl_se, T.n_se_settings, rfl⟩
theorem sef_channels (T : Txt K mg C) {x dx st l : Addr} {u : Int} {lim : V} (h : H x = some (.ins C.se dx (seF st l u lim))) : FldR K H (.ref x) "channels" (.ref l) := ⟨x, C.se, dx, _, rfl, h, T.cl_se, T.n_se_channels, rfl⟩
theorem sef_unlike (T : Txt K mg C) {x dx st l : Addr} {u : Int} {lim : V} (h : H x = some (.ins C.se dx (seF st l u lim))) : FldR K H (.ref x) "unlike" (.int u) := ⟨x, C.se, dx, _, rfl, h, T.cl_se, T.n_se_unlike, rfl⟩
theorem sef_limits (T : Txt K mg C) {x dx st l : Addr} {u : Int} {lim : V} (h : H x = some (.ins C.se dx (seF st l u lim))) : FldR K H (.ref x) "limits" (lim) := ⟨x, C.se, dx, _, rfl, h, T.cl_se, T.n_se_limits, rfl⟩
theorem se_no (m : Str) {x dx st l : Addr} {u : Int} {lim : V} (h : H x = some (.ins C.se dx (seF st l u lim))) (e : (seF st l u lim).lookup m = none := by rfl) : InsNo H (.ref x) C.se m := ⟨x, dx, _, rfl, h, e⟩
theorem sep_unlike (T : Txt K mg C) {x dx st l : Addr} {u : Int} {lim : V} (h : H x = some (.ins C.se dx (seF st l u lim))) (u2 : Int) : PutR K H (.ref x) "unlike" (.int u2) x C.se dx (seF st l u2 lim) := ⟨_, rfl, h, T.cl_se, T.n_se_unlike, (by show (4 : Nat) < 1000; decide), rfl⟩
theorem sep_limits (T : Txt K mg C) {x dx st l : Addr} {u : Int} {lim : V} (h : H x = some (.ins C.se dx (seF st l u lim))) (lim2 : V) : PutR K H (.ref x) "limits" (lim2) x C.se dx (seF st l u lim2) := ⟨_, rfl, h, T.cl_se, T.n_se_limits, (by show (4 : Nat) < 1000; decide), rfl⟩
end
theorem keepI {H H' : Hp} {c p C dx : Addr} {fs : List (Str × V)} {o : HO} (h : H p = some o) (k : kind o = 0 ∨ kind o = 108) (hc : H c = some (.ins C dx fs)) (n : fs.length ≠ 8) (f : Fr [c] H H') : H' p = some o :=
  f.keep (mut1 hc ⟨by show fs.length + 100 ≠ 0; omega, by show fs.length + 100 ≠ 108; omega⟩) h k
theorem mutC {H : Hp} {c C dx st g o w : Addr} {a u t : Int} (hc : H c = some (.ins C dx (chF st g o w a u t))) : MutL H [c] := mut1 hc ⟨by show (107 : Nat) ≠ 0; decide, by show (107 : Nat) ≠ 108; decide⟩
theorem ChC.store {C : Cs} {H H' : Hp} {c dx st g o w g' o' w' : Addr} {f : Fm} {ch ch' : Ch} (h : ChC C H c dx st g o w f ch) (e : H' c = some (.ins C.ch dx (chF st g' o' w' (ch'.same : Int) (ch'.out : Int) (ch'.fault : Int)))) (fr : Fr [c] H H') (hg : FrAt H' g' ch'.gain) (ho : FrAt H' o' ch'.offset) (hw : H' w' = some (.lst (ch'.window.map V.int))) : ChC C H' c dx st g' o' w' f ch' :=
  ⟨e, h.set.fr fr (mutC h.at_), hg, ho, hw⟩
theorem ChC.kg {C : Cs} {H H' : Hp} {c dx st g o w : Addr} {f : Fm} {ch : Ch} (h : ChC C H c dx st g o w f ch) (fr : Fr [c] H H') : FrAt H' g ch.gain := fr.keep (mutC h.at_) h.ga (.inl rfl)
theorem ChC.ko {C : Cs} {H H' : Hp} {c dx st g o w : Addr} {f : Fm} {ch : Ch} (h : ChC C H c dx st g o w f ch) (fr : Fr [c] H H') : FrAt H' o ch.offset := fr.keep (mutC h.at_) h.off (.inl rfl)
theorem ChC.kw {C : Cs} {H H' : Hp} {c dx st g o w : Addr} {f : Fm} {ch : Ch} (h : ChC C H c dx st g o w f ch) (fr : Fr [c] H H') : H' w = some (.lst (ch.window.map V.int)) := fr.keep (mutC h.at_) h.win (.inl rfl)
section
variable {P : Program} {w : World} {K : PySem.W.Frag} {mg : Str → Option Value} {base : Heap} {C : Cs}
theorem ok_Channel_init {f : Addr} {fd : FuncData} (F : Fun K "__init__" "Channel.__init__" s_Channel_init f fd) (T : Txt K mg C) (D_whole : Def P w K mg base "whole" 1 ["number"] (sp_whole C)) : FnOk P w K mg base CX0 2 f fd ["self", "settings"] (sp_Channel_init C) := by
  refine F.ok sc_Channel_init (fun _ _ _ _ h => h.1) (fun cdv A outer s H vs Q E hr h => ?_)
  obtain ⟨-, h⟩ := h
  obtain ⟨c, dx, st, f, rfl, hc, hs, k⟩ := h
  refine ⟨_, (pss_cons (x_put (pv 0) (pv 1)) (pss_cons (x_put (pv 0) (x_call D_whole (hr.mono (by decide)) rfl (pa_cons pe_int pa_nil))) (pss_cons (x_put (pv 0) (x_call D_whole (hr.mono (by decide)) rfl (pa_cons pe_int pa_nil))) (pss_cons (x_put (pv 0) (x_lst pa_nil)) (pss_cons (x_put (pv 0) pe_int) (pss_cons (x_put (pv 0) pe_int) (pss_one (x_put (pv 0) (x_gc rfl T.c_NO_FAULT))))))))), ?_⟩
  refine ⟨_, rfl, _, rfl, _, _, _, _, ⟨_, rfl, hc, T.cl_ch, T.n_ch_settings, (by show (0 : Nat) < 1000; decide), rfl⟩, fun H1 w1 => ?_⟩
  refine ⟨rfl, 1, rfl, fun g H2 s2 fg => ⟨_, rfl, _, _, _, _, ⟨_, rfl, s2 _ _ w1.at_, T.cl_ch, T.n_ch_gain, (by show (1 : Nat) < 1000; decide), rfl⟩, fun H3 w3 => ?_⟩⟩
  refine ⟨rfl, 0, rfl, fun o H4 s4 fo => ⟨_, rfl, _, _, _, _, ⟨_, rfl, s4 _ _ w3.at_, T.cl_ch, T.n_ch_offset, (by show (2 : Nat) < 1000; decide), rfl⟩, fun H5 w5 => ?_⟩⟩
  refine ⟨small_len (by simp), fun wn H6 hN => ⟨_, rfl, _, _, _, _, ⟨_, rfl, hN.same _ _ w5.at_, T.cl_ch, T.n_ch_window, (by show (3 : Nat) < 1000; decide), rfl⟩, fun H7 w7 => ?_⟩⟩
  refine ⟨_, rfl, _, _, _, _, ⟨_, rfl, w7.at_, T.cl_ch, T.n_ch_alike, (by show (4 : Nat) < 1000; decide), rfl⟩, fun H8 w8 => ?_⟩
  refine ⟨_, rfl, _, _, _, _, ⟨_, rfl, w8.at_, T.cl_ch, T.n_ch_out, (by show (5 : Nat) < 1000; decide), rfl⟩, fun H9 w9 => ?_⟩
  refine ⟨_, rfl, _, _, _, _, ⟨_, rfl, w9.at_, T.cl_ch, T.n_ch_fault, (by show (6 : Nat) < 1000; decide), rfl⟩, fun Hz wz => ?_⟩
  have f6 : Fr [c] H6 Hz := ((w7.fr.trans w8.fr).trans w9.fr).trans wz.fr
  have f4 : Fr [c] H4 Hz := (w5.fr.trans (Fr.of hN.same)).trans f6
  have f2 : Fr [c] H2 Hz := (w3.fr.trans (Fr.of s4)).trans f4
  have f1 : Fr [c] H Hz := (w1.fr.trans (Fr.of s2)).trans f2
  have m1 : MutL H [c] := mut1 hc ⟨by show (100 : Nat) ≠ 0; decide, by show (100 : Nat) ≠ 108; decide⟩
  exact k _ ⟨g, o, wn, ⟨wz.at_, hs.fr f1 m1, keepI fg (.inl rfl) (s2 _ _ w1.at_) (by show (1 : Nat) ≠ 8; decide) f2, keepI fo (.inl rfl) (s4 _ _ w3.at_) (by show (2 : Nat) ≠ 8; decide) f4, keepI hN.at_ (.inl rfl) (hN.same _ _ w5.at_) (by show (3 : Nat) ≠ 8; decide) f6⟩, w1.free (s2.free (w3.free (s4.free (w5.free hN.fresh))))⟩ f1
theorem ok_Channel_value_by {f : Addr} {fd : FuncData} (F : Fun K "value_by" "Channel.value_by" s_Channel_value_by f fd) (T : Txt K mg C) (D_added : Def P w K mg base "added" 3 ["a", "b"] (sp_added C)) (D_multiplied : Def P w K mg base "multiplied" 3 ["a", "b"] (sp_multiplied C)) (D_table_value : Def P w K mg base "table_value" 4 ["points", "count"] (sp_table_value C)) : FnOk P w K mg base CX0 5 f fd ["self", "gain", "offset", "count"] (sp_Channel_value_by C) := by
  refine F.ok sc_Channel_value_by (fun _ _ _ _ h => h.1) (fun cdv A outer s H vs Q E hr h => ?_)
  obtain ⟨-, h⟩ := h
  obtain ⟨c, pg, po, n, f, ch, g, o, rfl, ⟨dx, st, ag, ao, aw, hc⟩, hf, hg, ho, bg, bo, hn, k⟩ := h
  refine ⟨_, (pss_one (ps_ret (x_call D_added (hr.mono (by decide)) rfl (pa_cons (x_call D_multiplied (hr.mono (by decide)) rfl (pa_cons (pv 1) (pa_cons (x_call D_table_value (hr.mono (by decide)) rfl (pa_cons (x_fld (x_fld (pv 0))) (pa_cons (pv 3) pa_nil))) pa_nil))) (pa_cons (pv 2) pa_nil))))), ?_⟩
  obtain ⟨ds, pl, hs, hp⟩ := hc.set
  have bt := hf.tbl.bound hn
  refine ⟨_, rfl, _, rfl, _, chf_settings T hc.at_, _, stf_points T hs, _, rfl, rfl, pl, f.table, n, rfl, hp, hf.tbl, hn, fun p H2 s2 fp => ?_⟩
  refine ⟨rfl, pg, p, g, _, rfl, hg.same s2, fp, bg.mono (by decide), bt.mono (by decide), trivial, fun p3 H3 s3 fp3 => ?_⟩
  exact ⟨_, rfl, rfl, p3, po, _, o, rfl, fp3, (ho.same s2).same s3, (bg.mul bt).mono (by decide), bo.mono (by decide), trivial, fun p4 H4 s4 fp4 => k p4 H4 ((s2.trans s3).trans s4) fp4⟩
theorem ok_Channel_exact_value {f : Addr} {fd : FuncData} (F : Fun K "exact_value" "Channel.exact_value" s_Channel_exact_value f fd) (T : Txt K mg C) (D_Channel_value_by : MethD P w K mg base C.ch "value_by" 5 ["self", "gain", "offset", "count"] (sp_Channel_value_by C)) : FnOk P w K mg base CX0 6 f fd ["self", "count"] (sp_Channel_exact_value C) := by
  refine F.ok sc_Channel_exact_value (fun _ _ _ _ h => h.1) (fun cdv A outer s H vs Q E hr h => ?_)
  obtain ⟨-, h⟩ := h
  obtain ⟨c, n, f, ch, rfl, ⟨dx, st, ag, ao, aw, hc⟩, hf, ok, hn, k⟩ := h
  refine ⟨_, (pss_one (ps_ret (x_meth (pv 0) D_Channel_value_by (hr.mono (by decide)) (pa_cons (x_fld (pv 0)) (pa_cons (x_fld (pv 0)) (pa_cons (pv 1) pa_nil)))))), ?_⟩
  exact ⟨_, rfl, ch_no _ hc.at_, _, rfl, _, chf_gain T hc.at_, _, rfl, _, chf_offset T hc.at_, _, rfl, rfl, c, ag, ao, n, f, ch, _, _, rfl, ⟨dx, st, ag, ao, aw, hc⟩, hf, hc.ga, hc.off, ok.g, ok.o, hn, k⟩
theorem ok_Channel_whole_value {f : Addr} {fd : FuncData} (F : Fun K "whole_value" "Channel.whole_value" s_Channel_whole_value f fd) (T : Txt K mg C) (D_rounded_down : Def P w K mg base "rounded_down" 1 ["a"] (sp_rounded_down C)) (D_Channel_exact_value : MethD P w K mg base C.ch "exact_value" 6 ["self", "count"] (sp_Channel_exact_value C)) : FnOk P w K mg base CX0 7 f fd ["self", "count"] (sp_Channel_whole_value C) := by
  refine F.ok sc_Channel_whole_value (fun _ _ _ _ h => h.1) (fun cdv A outer s H vs Q E hr h => ?_)
  obtain ⟨-, h⟩ := h
  obtain ⟨c, n, f, ch, rfl, ⟨dx, st, ag, ao, aw, hc⟩, hf, ok, hn, k⟩ := h
  refine ⟨_, (pss_one (ps_ret (x_call D_rounded_down (hr.mono (by decide)) rfl (pa_cons (x_meth (pv 0) D_Channel_exact_value (hr.mono (by decide)) (pa_cons (pv 1) pa_nil)) pa_nil)))), ?_⟩
  refine ⟨_, rfl, ch_no _ hc.at_, _, rfl, rfl, c, n, f, ch, rfl, ⟨dx, st, ag, ao, aw, hc⟩, hf, ok, hn, fun p H2 s2 fp => ?_⟩
  exact ⟨rfl, p, _, rfl, fp, (exact_bound hf ok hn).mono (by decide), k H2 s2⟩
theorem ok_Channel_tells {f : Addr} {fd : FuncData} (F : Fun K "tells" "Channel.tells" s_Channel_tells f fd) (T : Txt K mg C)  : FnOk P w K mg base CX0 1 f fd ["self"] (sp_Channel_tells C) := by
  refine F.ok sc_Channel_tells (fun _ _ _ _ h => h.1) (fun cdv A outer s H vs Q E hr h => ?_)
  obtain ⟨-, h⟩ := h
  obtain ⟨c, f, ch, rfl, ⟨dx, st, ag, ao, aw, hc⟩, k⟩ := h
  refine ⟨_, (pss_one (ps_ret (pe_cmpR op_gt (pe_callB x_callen (by rfl) T.b_len boot_len' (pa_cons (x_fld (pv 0)) pa_nil)) pe_int (nomark _)))), ?_⟩
  refine ⟨_, rfl, _, chf_window T hc.at_, _, LenF.l hc.win, _, _, rfl, rfl, Qb k ?_⟩
  rw [List.length_map]
  apply Bool.eq_iff_iff.mpr
  rw [decide_eq_true_eq, decide_eq_true_eq]
  omega
theorem ok_Channel_told_value {f : Addr} {fd : FuncData} (F : Fun K "told_value" "Channel.told_value" s_Channel_told_value f fd) (T : Txt K mg C) (D_Channel_whole_value : MethD P w K mg base C.ch "whole_value" 7 ["self", "count"] (sp_Channel_whole_value C)) (D_middle_one : Def P w K mg base "middle_one" 1 ["numbers"] (sp_middle_one C)) : FnOk P w K mg base CX0 8 f fd ["self"] (sp_Channel_told_value C) := by
  refine F.ok sc_Channel_told_value (fun _ _ _ _ h => h.1) (fun cdv A outer s H vs Q E hr h => ?_)
  obtain ⟨-, h⟩ := h
  obtain ⟨c, f, ch, v, rfl, ⟨dx, st, ag, ao, aw, hc⟩, hf, ok, ht, k⟩ := h
  refine ⟨_, (pss_one (ps_ret (x_meth (pv 0) D_Channel_whole_value (hr.mono (by decide)) (pa_cons (x_call D_middle_one (hr.mono (by decide)) rfl (pa_cons (x_fld (pv 0)) pa_nil)) pa_nil)))), ?_⟩
  unfold Vbdlac.tells at ht
  obtain ⟨m, hm, ev⟩ := map_some_of ht
  subst ev
  have hm2 : m ∈ ch.window := by
    have hl : 0 < ch.window.length := by
      cases hw : ch.window with
      | nil => rw [hw] at hm; cases hm
      | cons a l => exact Nat.succ_pos _
    obtain ⟨m', h1, h2⟩ := middle_some hl
    rw [hm] at h1
    cases h1
    exact h2
  refine ⟨_, rfl, ch_no _ hc.at_, _, rfl, _, chf_window T hc.at_, rfl, aw, _, m, rfl, hc.win, Nat.lt_of_le_of_lt ok.wl (by decide), hm, fun H2 s2 => ?_⟩
  exact ⟨rfl, c, m, f, ch, rfl, ⟨dx, st, ag, ao, aw, hc.same s2⟩, hf, ok, ok.wc m hm2, fun H3 s3 => k H3 (s2.trans s3)⟩
theorem ok_Channel_is_trusted {f : Addr} {fd : FuncData} (F : Fun K "is_trusted" "Channel.is_trusted" s_Channel_is_trusted f fd) (T : Txt K mg C) (D_Channel_tells : MethD P w K mg base C.ch "tells" 1 ["self"] (sp_Channel_tells C)) : FnOk P w K mg base CX0 2 f fd ["self"] (sp_Channel_is_trusted C) := by
  refine F.ok sc_Channel_is_trusted (fun _ _ _ _ h => h.1) (fun cdv A outer s H vs Q E hr h => ?_)
  obtain ⟨-, h⟩ := h
  obtain ⟨c, f, ch, rfl, ⟨dx, st, ag, ao, aw, hc⟩, k⟩ := h
  refine ⟨_, (pss_one (ps_ret (pe_and (x_meth0 (pv 0) D_Channel_tells (hr.mono (by decide))) (pe_one (pe_cmpR x_opeq (x_fld (pv 0)) (x_gc rfl T.c_NO_FAULT) (nomark _)))))), ?_⟩
  refine ⟨_, rfl, ch_no _ hc.at_, rfl, c, f, ch, rfl, ⟨dx, st, ag, ao, aw, hc⟩, _, rfl, ifB (fun h1 => ⟨_, rfl, _, chf_fault T hc.at_, _, _, rfl, rfl, Qb k ?_⟩) (fun h1 => Qb k ?_)⟩
  · unfold isTr
    rw [decide_eq_true h1, Bool.true_and]
    apply Bool.eq_iff_iff.mpr
    rw [decide_eq_true_eq, decide_eq_true_eq]
    omega
  · unfold isTr
    rw [decide_eq_false h1]
    rfl
theorem ok_Channel_latch {f : Addr} {fd : FuncData} (F : Fun K "latch" "Channel.latch" s_Channel_latch f fd) (T : Txt K mg C)  : FnOk P w K mg base CX0 1 f fd ["self", "fault"] (sp_Channel_latch C) := by
  refine F.ok sc_Channel_latch (fun _ _ _ _ h => h.1) (fun cdv A outer s H vs Q E hr h => ?_)
  obtain ⟨-, h⟩ := h
  obtain ⟨c, k0, f, ch, rfl, ⟨dx, st, ag, ao, aw, hc⟩, k⟩ := h
  refine ⟨_, (pss_one (ps_if (pt_cmpR x_opeq (x_fld (pv 0)) (x_gc rfl T.c_NO_FAULT) (nomark _)) (pss_one (x_put (pv 0) (pv 1))) pss_nil)), ?_⟩
  unfold spCh Vbdlac.latch at k
  refine ⟨_, rfl, _, chf_fault T hc.at_, _, _, rfl, rfl, _, rfl, ifB (fun h1 => ?_) (fun h1 => ?_)⟩
  · rw [if_pos (by omega)] at k
    refine ⟨_, rfl, _, rfl, _, _, _, _, chp_fault T hc.at_ _, fun H2 w2 => k H2 ⟨dx, st, ag, ao, aw, hc.store w2.at_ w2.fr (hc.kg w2.fr) (hc.ko w2.fr) (hc.kw w2.fr)⟩ w2.fr⟩
  · rw [if_neg (by omega)] at k
    exact k H ⟨dx, st, ag, ao, aw, hc⟩ (Fr.refl _ _)
theorem ok_Channel_is_stuck {f : Addr} {fd : FuncData} (F : Fun K "is_stuck" "Channel.is_stuck" s_Channel_is_stuck f fd) (T : Txt K mg C)  : FnOk P w K mg base CX0 1 f fd ["self"] (sp_Channel_is_stuck C) := by
  refine F.ok sc_Channel_is_stuck (fun _ _ _ _ h => h.1) (fun cdv A outer s H vs Q E hr h => ?_)
  obtain ⟨-, h⟩ := h
  obtain ⟨c, f, ch, rfl, ⟨dx, st, ag, ao, aw, hc⟩, k⟩ := h
  refine ⟨_, (pss_one (ps_ret (pe_and (pe_cmpR op_gt (x_fld (x_fld (pv 0))) pe_int (nomark _)) (pe_one (pe_cmpR op_ge (x_fld (pv 0)) (x_fld (x_fld (pv 0))) (nomark _)))))), ?_⟩
  obtain ⟨ds, pl, hs, hp⟩ := hc.set
  refine ⟨_, rfl, _, chf_settings T hc.at_, _, stf_stuck T hs, _, _, rfl, rfl, _, rfl, ifB (fun h1 => ⟨_, rfl, _, chf_alike T hc.at_, _, rfl, _, chf_settings T hc.at_, _, stf_stuck T hs, _, _, rfl, rfl, Qb k ?_⟩) (fun h1 => Qb k ?_)⟩
  · unfold stuckB
    rw [decide_eq_true (show 0 < f.stuck by omega), Bool.true_and]
    apply Bool.eq_iff_iff.mpr
    rw [decide_eq_true_eq, decide_eq_true_eq]
    omega
  · unfold stuckB
    rw [decide_eq_false (show ¬ 0 < f.stuck by omega)]
    rfl
theorem ok_Channel_forget {f : Addr} {fd : FuncData} (F : Fun K "forget" "Channel.forget" s_Channel_forget f fd) (T : Txt K mg C)  : FnOk P w K mg base CX0 1 f fd ["self"] (sp_Channel_forget C) := by
  refine F.ok sc_Channel_forget (fun _ _ _ _ h => h.1) (fun cdv A outer s H vs Q E hr h => ?_)
  obtain ⟨-, h⟩ := h
  obtain ⟨c, f, ch, rfl, ⟨dx, st, ag, ao, aw, hc⟩, k⟩ := h
  refine ⟨_, (pss_cons (x_put (pv 0) (x_lst pa_nil)) (pss_cons (x_put (pv 0) pe_int) (pss_one (x_put (pv 0) pe_int)))), ?_⟩
  refine ⟨small_len (by simp), fun wn H2 hN => ⟨_, rfl, _, _, _, _, chp_window T (hN.same _ _ hc.at_) _, fun H3 w3 => ?_⟩⟩
  refine ⟨_, rfl, _, _, _, _, chp_alike T w3.at_ _, fun H4 w4 => ?_⟩
  refine ⟨_, rfl, _, _, _, _, chp_out T w4.at_ _, fun H5 w5 => ?_⟩
  have f2 : Fr [c] H2 H5 := (w3.fr.trans w4.fr).trans w5.fr
  have hc2 := hc.same hN.same
  exact k H5 ⟨dx, st, ag, ao, wn, hc2.store (ch' := clrCh ch) w5.at_ f2 (hc2.kg f2) (hc2.ko f2) (f2.keep (mutC hc2.at_) hN.at_ (.inl rfl))⟩ ((Fr.of hN.same).trans f2)
end
end Tw
set_option Elab.async false
set_option linter.all false
set_option maxRecDepth 100000
set_option maxHeartbeats 2000000
namespace Tw
open PySem PySem.Spec PyProof.Rows L2 L3
theorem seq_cut {t u : TS} {D : Ends} {σ : L2.St} {H : Hp} (P : Hp → Prop) (h2 : ∀ H1, P H1 → u D σ H1) (h1 : (∀ H1, P H1 → u D σ H1) → t { D with nx := u D } σ H) : tSeq t u D σ H := h1 h2
theorem seq_if {c : TT} {t1 t2 u : TS} {D : Ends} {σ : L2.St} {H : Hp} (P : Hp → Prop) (h2 : ∀ H1, P H1 → u D σ H1) (h1 : (∀ H1, P H1 → u D σ H1) → tIfS c t1 t2 { D with nx := u D } σ H) : tSeq (tIfS c t1 t2) u D σ H := h1 h2
theorem nx_of {D : Ends} {σ : L2.St} {H : Hp} (h : D.nx σ H) : tNext D σ H := h
theorem Same.refl (H : Hp) : Same H H := fun _ _ h => h
theorem sIx_nat (n d k : Nat) : HT.sIx n d (some (k : Int)) = min k n := by
  show (if (k : Int) < 0 then ((k : Int) + (n : Int)).toNat else min ((k : Int)).toNat n) = _
  rw [if_neg (by omega), Int.toNat_natCast]
theorem sIx_none (n d : Nat) : HT.sIx n d none = d := rfl
theorem cut_to (xs : List V) (k : Nat) : cutV xs none (some (k : Int)) = xs.take k := by
  unfold cutV
  rw [sIx_nat, sIx_none, List.drop_zero, Nat.sub_zero]
  by_cases h : k ≤ xs.length
  · rw [Nat.min_eq_left h]
  · rw [Nat.min_eq_right (by omega), List.take_length, List.take_of_length_le (by omega)]
theorem cut_from (xs : List V) (k : Nat) : cutV xs (some (k : Int)) none = xs.drop k := by
  unfold cutV
  rw [sIx_nat, sIx_none]
  by_cases h : k ≤ xs.length
  · rw [Nat.min_eq_left h, List.take_of_length_le (by rw [List.length_drop]; omega)]
  · rw [Nat.min_eq_right (by omega), List.drop_length, List.drop_of_length_le (by omega), List.take_nil]
theorem cut_mid (xs : List V) {a b : Nat} (hab : a ≤ b) (hb : b ≤ xs.length) : cutV xs (some (a : Int)) (some (b : Int)) = (xs.drop a).take (b - a) := by
  unfold cutV
  rw [sIx_nat, sIx_nat, Nat.min_eq_left hb, Nat.min_eq_left (by omega)]
theorem min_cast (a b : Nat) : (if (b : Int) < (a : Int) + 1 then (b : Int) else (a : Int) + 1) = ((min (a + 1) b : Nat) : Int) := by split <;> omega
theorem abs_cast (z : Int) : (if z < 0 then -z else z) = (z.natAbs : Int) := by split <;> omega
theorem inCh_eq {f : Fm} {ch : Ch} {n : Int} {z : Nat} (hz : z = if ch.window.head? = some n then min (ch.same + 1) 1000 else 1) :
    inCh f ch n = if 0 < f.stuck ∧ f.stuck ≤ z then Vbdlac.latch { ch with window := (n :: ch.window).take f.width, same := z, out := 0 } 2 else { ch with window := (n :: ch.window).take f.width, same := z, out := 0 } := by
  subst hz
  rfl
theorem outCh_eq (f : Fm) (ch : Ch) : outCh f ch = if min (ch.out + 1) f.times = f.times then Vbdlac.latch { ch with out := min (ch.out + 1) f.times } 1 else { ch with out := min (ch.out + 1) f.times } := rfl
theorem tells_none {f : Fm} {ch : Ch} (h : ¬ 0 < ch.window.length) : Vbdlac.tells f ch = none := by
  unfold Vbdlac.tells
  cases e : ch.window with
  | nil => rfl
  | cons a l => rw [e] at h; exact absurd (Nat.succ_pos _) h
theorem tells_some {f : Fm} {ch : Ch} (h : 0 < ch.window.length) : ∃ x, Vbdlac.tells f ch = some x := by
  obtain ⟨m, hm, _⟩ := middle_some h
  exact ⟨_, by unfold Vbdlac.tells; rw [hm]; rfl⟩
theorem agrees_none {f : Fm} {ch : Ch} {v : Int} (h : Vbdlac.tells f ch = none) : Vbdlac.agrees f ch v = false := by
  unfold Vbdlac.agrees
  rw [h]
theorem stuck_not (f : Fm) (ch : Ch) : (f.stuck == 0 || decide (ch.same < f.stuck)) = !stuckB f ch := by
  unfold stuckB
  apply Bool.eq_iff_iff.mpr
  rw [Bool.or_eq_true, beq_iff_eq, decide_eq_true_eq, Bool.not_eq_true', ← Bool.not_eq_true, Bool.and_eq_true, decide_eq_true_eq, decide_eq_true_eq]
  omega
theorem agrees_some {f : Fm} {ch : Ch} {v x : Int} (h : Vbdlac.tells f ch = some x) : Vbdlac.agrees f ch v = (decide (Vbdlac.far x v ≤ f.tol) && (ch.out == 0 && !stuckB f ch)) := by
  unfold Vbdlac.agrees
  rw [h, ← stuck_not]
section
variable {P : Program} {w : World} {K : PySem.W.Frag} {mg : Str → Option Value} {base : Heap} {C : Cs}
theorem ok_Channel_take_out_of_range {f : Addr} {fd : FuncData} (F : Fun K "take_out_of_range" "Channel.take_out_of_range" s_Channel_take_out_of_range f fd) (T : Txt K mg C) (D_Channel_latch : MethD P w K mg base C.ch "latch" 1 ["self", "fault"] (sp_Channel_latch C)) : FnOk P w K mg base CX0 2 f fd ["self"] (sp_Channel_take_out_of_range C) := by
  refine F.ok sc_Channel_take_out_of_range (fun _ _ _ _ h => h.1) (fun cdv A outer s H vs Q E hr h => ?_)
  obtain ⟨-, h⟩ := h
  obtain ⟨c, f, ch, rfl, ⟨dx, st, ag, ao, aw, hc⟩, k⟩ := h
  refine ⟨_, (pss_cons (x_put (pv 0) (pe_callB (call_min2 rfl) (by rfl) T.b_min boot_min' (pa_cons (pe_op op_add (x_fld (pv 0)) pe_int) (pa_cons (x_fld (x_fld (pv 0))) pa_nil)))) (pss_one (ps_if (pt_cmpR x_opeq (x_fld (pv 0)) (x_fld (x_fld (pv 0))) (nomark _)) (pss_one (ps_expr (x_meth (pv 0) D_Channel_latch (hr.mono (by decide)) (pa_cons (x_gc rfl T.c_FAULT_OUT_OF_RANGE) pa_nil)))) pss_nil))), ?_⟩
  obtain ⟨ds, pl, hs, hp⟩ := hc.set
  refine ⟨_, rfl, _, chf_out T hc.at_, _, _, rfl, rfl, _, rfl, _, chf_settings T hc.at_, _, stf_times T hs, _, _, rfl, _, rfl, _, _, _, _, chp_out T hc.at_ (if (f.times : Int) < (ch.out : Int) + 1 then (f.times : Int) else (ch.out : Int) + 1), fun H1 w1 => ?_⟩
  have w1a := w1.at_
  rw [min_cast] at w1a
  have hc1 : ChC C H1 c dx st ag ao aw f { ch with out := min (ch.out + 1) f.times } := hc.store w1a w1.fr (hc.kg w1.fr) (hc.ko w1.fr) (hc.kw w1.fr)
  have hs1 := w1.fr.keep (mutC hc.at_) hs (.inr rfl)
  rw [outCh_eq] at k
  refine ⟨_, rfl, _, chf_out T hc1.at_, _, rfl, _, chf_settings T hc1.at_, _, stf_times T hs1, _, _, rfl, rfl, _, rfl, ifB (fun h1 => ?_) (fun h1 => ?_)⟩
  · have h1 : ((min (ch.out + 1) f.times : Nat) : Int) = (f.times : Int) := h1
    rw [if_pos (by omega)] at k
    exact ⟨_, rfl, ch_no _ hc1.at_, rfl, c, 1, f, _, rfl, ⟨dx, st, ag, ao, aw, hc1⟩, fun H2 h2 f2 => k H2 h2 (w1.fr.trans f2)⟩
  · have h1 : ¬ ((min (ch.out + 1) f.times : Nat) : Int) = (f.times : Int) := h1
    rw [if_neg (by omega)] at k
    exact k H1 ⟨dx, st, ag, ao, aw, hc1⟩ w1.fr
theorem ok_Channel_take_in_range {f : Addr} {fd : FuncData} (F : Fun K "take_in_range" "Channel.take_in_range" s_Channel_take_in_range f fd) (T : Txt K mg C) (D_Channel_tells : MethD P w K mg base C.ch "tells" 1 ["self"] (sp_Channel_tells C)) (D_Channel_is_stuck : MethD P w K mg base C.ch "is_stuck" 1 ["self"] (sp_Channel_is_stuck C)) (D_Channel_latch : MethD P w K mg base C.ch "latch" 1 ["self", "fault"] (sp_Channel_latch C)) : FnOk P w K mg base CX0 2 f fd ["self", "count"] (sp_Channel_take_in_range C) := by
  refine F.ok sc_Channel_take_in_range (fun _ _ _ _ h => h.1) (fun cdv A outer s H vs Q E hr h => ?_)
  obtain ⟨-, h⟩ := h
  obtain ⟨c, n, f, ch, rfl, ⟨dx, st, ag, ao, aw, hc⟩, hwl, k⟩ := h
  refine ⟨_, (pss_cons (ps_if (PW.pt (pw_and (pt_val (x_meth0 (pv 0) D_Channel_tells (hr.mono (by decide)))) (pw_and1 (pt_cmpR x_opeq (x_ixl (x_fld (pv 0)) pe_int) (pv 1) (nomark _))))) (pss_one (x_put (pv 0) (pe_callB (call_min2 rfl) (by rfl) T.b_min boot_min' (pa_cons (pe_op op_add (x_fld (pv 0)) pe_int) (pa_cons (x_gc rfl T.c_MOST_ALIKE) pa_nil))))) (pss_one (x_put (pv 0) pe_int))) (pss_cons (ps_set (i := 2) sc_Channel_take_in_range.nd rfl (Or.inl rfl) (pe_op x_opcat (x_lst (pa_cons (pv 1) pa_nil)) (x_fld (pv 0)))) (pss_cons (x_put (pv 0) (x_slice (pv 2) po_none (po_some (x_fld (x_fld (pv 0)))))) (pss_cons (x_put (pv 0) pe_int) (pss_one (ps_if (pt_val (x_meth0 (pv 0) D_Channel_is_stuck (hr.mono (by decide)))) (pss_one (ps_expr (x_meth (pv 0) D_Channel_latch (hr.mono (by decide)) (pa_cons (x_gc rfl T.c_FAULT_STUCK) pa_nil)))) pss_nil)))))), ?_⟩
  refine seq_cut (fun H1 => ∃ z : Nat, (z = if ch.window.head? = some n then min (ch.same + 1) 1000 else 1) ∧ Wr H c (.ins C.ch dx (chF st ag ao aw (z : Int) (ch.out : Int) (ch.fault : Int))) H1) ?_ ?_
  · rintro H1 ⟨z, hz, w1⟩
    rw [inCh_eq hz] at k
    have hc1 : ChC C H1 c dx st ag ao aw f { ch with same := z } := hc.store w1.at_ w1.fr (hc.kg w1.fr) (hc.ko w1.fr) (hc.kw w1.fr)
    refine ⟨_, rfl, small_len (by simp), fun p2 H2 N2 => ⟨_, rfl, _, chf_window T (N2.same _ _ hc1.at_), _, _, _, _, rfl, rfl, N2.at_, N2.same _ _ hc1.win, small_len ?_, fun p3 H3 N3 => ?_⟩⟩
    · rw [List.length_map]
      show 1 + ch.window.length ≤ _
      omega
    have s3 : Same H1 H3 := N2.same.trans N3.same
    have hc3 := hc1.same s3
    obtain ⟨ds3, pl3, hs3, hp3⟩ := hc3.set
    refine ⟨_, rfl, _, rfl, _, chf_settings T hc3.at_, _, stf_width T hs3, _, rfl, _, LstF.mk N3.at_, fun p4 H4 N4 => ⟨_, rfl, _, _, _, _, chp_window T (N4.same _ _ hc3.at_) p4, fun H5 w5 => ?_⟩⟩
    refine ⟨_, rfl, _, _, _, _, chp_out T w5.at_ 0, fun H6 w6 => ?_⟩
    have f6 : Fr [c] H4 H6 := w5.fr.trans w6.fr
    have hc4 := hc3.same N4.same
    have hw6 : H6 p4 = some (.lst (((n :: ch.window).take f.width).map V.int)) := by
      have q := f6.keep (mutC hc4.at_) N4.at_ (.inl rfl)
      rw [cut_to] at q
      rw [q, List.map_take]
      rfl
    have hc6 : ChC C H6 c dx st ag ao p4 f { ch with window := (n :: ch.window).take f.width, same := z, out := 0 } := hc4.store w6.at_ f6 (hc4.kg f6) (hc4.ko f6) hw6
    have fr : Fr [c] H H6 := (w1.fr.trans (Fr.of (s3.trans N4.same))).trans f6
    refine ⟨_, rfl, ch_no _ hc6.at_, rfl, c, f, _, rfl, ⟨dx, st, ag, ao, p4, hc6⟩, _, rfl, ifC (fun h3 => ?_) (fun h3 => ?_)⟩
    · rw [stuckB, Bool.and_eq_true, decide_eq_true_eq, decide_eq_true_eq] at h3
      rw [if_pos h3] at k
      exact ⟨_, rfl, ch_no _ hc6.at_, rfl, c, 2, f, _, rfl, ⟨dx, st, ag, ao, p4, hc6⟩, fun H7 h7 f7 => k H7 h7 (fr.trans f7)⟩
    · rw [← Bool.not_eq_true, stuckB, Bool.and_eq_true, decide_eq_true_eq, decide_eq_true_eq] at h3
      rw [if_neg h3] at k
      exact k H6 ⟨dx, st, ag, ao, p4, hc6⟩ fr
  · intro rest
    refine ⟨_, rfl, ch_no _ hc.at_, rfl, c, f, ch, rfl, ⟨dx, st, ag, ao, aw, hc⟩, _, rfl, ifB (fun h1 => ?_) (fun h1 => iteF ⟨_, rfl, _, _, _, _, chp_alike T hc.at_ 1, fun H1 w1 => rest H1 ⟨1, ?_, w1⟩⟩)⟩
    · obtain ⟨a, l, hw⟩ : ∃ a l, ch.window = a :: l := by
        cases e : ch.window with
        | nil => rw [e] at h1; exact absurd h1 (by decide)
        | cons a l => exact ⟨a, l, rfl⟩
      have hwin : H aw = some (.lst (.int a :: l.map V.int)) := by
        have q := hc.win
        rw [hw] at q
        exact q
      refine ⟨_, rfl, _, chf_window T hc.at_, _, IxL.k0 hwin, _, rfl, _, _, rfl, rfl, _, rfl, ifB (fun h2 => ⟨_, rfl, _, chf_alike T hc.at_, _, _, rfl, rfl, _, _, rfl, _, rfl, _, _, _, _, chp_alike T hc.at_ (if ((1000 : Nat) : Int) < (ch.same : Int) + 1 then ((1000 : Nat) : Int) else (ch.same : Int) + 1), fun H1 w1 => rest H1 ⟨min (ch.same + 1) 1000, ?_, ?_⟩⟩) (fun h2 => ⟨_, rfl, _, _, _, _, chp_alike T hc.at_ 1, fun H1 w1 => rest H1 ⟨1, ?_, w1⟩⟩)⟩
      · have h2 : a = n := h2
        rw [hw, h2]
        exact (if_pos rfl).symm
      · rw [min_cast] at w1
        exact w1
      · have h2 : ¬ a = n := h2
        rw [hw]
        exact (if_neg (fun q => h2 (Option.some.inj q))).symm
    · cases e : ch.window with
      | nil => rfl
      | cons a l => rw [e] at h1; exact absurd (Nat.succ_pos _) h1
theorem ok_Channel_take {f : Addr} {fd : FuncData} (F : Fun K "take" "Channel.take" s_Channel_take f fd) (T : Txt K mg C) (D_Settings_has_in_range : MethD P w K mg base C.st "has_in_range" 1 ["self", "count"] (sp_Settings_has_in_range C)) (D_Channel_take_in_range : MethD P w K mg base C.ch "take_in_range" 2 ["self", "count"] (sp_Channel_take_in_range C)) (D_Channel_take_out_of_range : MethD P w K mg base C.ch "take_out_of_range" 2 ["self"] (sp_Channel_take_out_of_range C)) : FnOk P w K mg base CX0 3 f fd ["self", "count"] (sp_Channel_take C) := by
  refine F.ok sc_Channel_take (fun _ _ _ _ h => h.1) (fun cdv A outer s H vs Q E hr h => ?_)
  obtain ⟨-, h⟩ := h
  obtain ⟨c, n, f, ch, rfl, ⟨dx, st, ag, ao, aw, hc⟩, hwl, k⟩ := h
  refine ⟨_, (pss_one (ps_if (pt_val (x_meth (x_fld (pv 0)) D_Settings_has_in_range (hr.mono (by decide)) (pa_cons (pv 1) pa_nil))) (pss_one (ps_expr (x_meth (pv 0) D_Channel_take_in_range (hr.mono (by decide)) (pa_cons (pv 1) pa_nil)))) (pss_one (ps_expr (x_meth0 (pv 0) D_Channel_take_out_of_range (hr.mono (by decide))))))), ?_⟩
  obtain ⟨ds, pl, hs, hp⟩ := hc.set
  rw [take_eq] at k
  refine ⟨_, rfl, _, chf_settings T hc.at_, st_no _ hs, _, rfl, rfl, st, n, f, rfl, hc.set, _, rfl, ifC (fun h1 => ?_) (fun h1 => ?_)⟩
  · rw [if_neg (by rw [h1]; decide)] at k
    exact ⟨_, rfl, ch_no _ hc.at_, _, rfl, rfl, c, n, f, ch, rfl, ⟨dx, st, ag, ao, aw, hc⟩, hwl, k⟩
  · rw [if_pos h1] at k
    exact ⟨_, rfl, ch_no _ hc.at_, rfl, c, f, ch, rfl, ⟨dx, st, ag, ao, aw, hc⟩, k⟩
theorem ok_Channel_is_good {f : Addr} {fd : FuncData} (F : Fun K "is_good" "Channel.is_good" s_Channel_is_good f fd) (T : Txt K mg C) (D_Channel_is_stuck : MethD P w K mg base C.ch "is_stuck" 1 ["self"] (sp_Channel_is_stuck C)) (D_Channel_tells : MethD P w K mg base C.ch "tells" 1 ["self"] (sp_Channel_tells C)) (D_Channel_told_value : MethD P w K mg base C.ch "told_value" 8 ["self"] (sp_Channel_told_value C)) : FnOk P w K mg base CX0 9 f fd ["self", "known"] (sp_Channel_is_good C) := by
  refine F.ok sc_Channel_is_good (fun _ _ _ _ h => h.1) (fun cdv A outer s H vs Q E hr h => ?_)
  obtain ⟨-, h⟩ := h
  obtain ⟨c, v, f, ch, rfl, ⟨dx, st, ag, ao, aw, hc⟩, hf, ok, k⟩ := h
  refine ⟨_, (pss_cons (ps_if (PW.pt (pw_or (pt_not (pt_val (x_meth0 (pv 0) D_Channel_tells (hr.mono (by decide))))) (pw_or (pt_cmpR x_opne (x_fld (pv 0)) pe_int (nomark _)) (pw_or1 (pt_val (x_meth0 (pv 0) D_Channel_is_stuck (hr.mono (by decide)))))))) (pss_one (ps_ret pe_bl)) pss_nil) (pss_one (ps_ret (pe_cmpR op_le (pe_callB call_abs (by rfl) T.b_abs boot_abs' (pa_cons (pe_op op_sub (x_meth0 (pv 0) D_Channel_told_value (hr.mono (by decide))) (pv 1)) pa_nil)) (x_fld (x_fld (pv 0))) (nomark _))))), ?_⟩
  obtain ⟨ds, pl, hs, hp⟩ := hc.set
  have k0 := k H (Same.refl H)
  refine ⟨_, rfl, ch_no _ hc.at_, rfl, c, f, ch, rfl, ⟨dx, st, ag, ao, aw, hc⟩, _, rfl, ifN (fun h1 => iteT (Qb k0 (agrees_none (tells_none h1)))) (fun h1 => ?_)⟩
  obtain ⟨x, hx⟩ := tells_some (f := f) h1
  have ea := agrees_some (v := v) hx
  refine ⟨_, rfl, _, chf_out T hc.at_, _, _, rfl, rfl, _, rfl, ifN (fun h2 => iteT (Qb k0 ?_)) (fun h2 => ⟨_, rfl, ch_no _ hc.at_, rfl, c, f, ch, rfl, ⟨dx, st, ag, ao, aw, hc⟩, _, rfl, ifC (fun h3 => Qb k0 ?_) (fun h3 => ?_)⟩)⟩
  · rw [ea, show (ch.out == 0) = false from by rw [← Bool.not_eq_true, beq_iff_eq]; omega]
    rw [Bool.false_and, Bool.and_false]
  · rw [ea, h3]
    rw [Bool.not_true, Bool.and_false, Bool.and_false]
  · refine ⟨_, rfl, ch_no _ hc.at_, rfl, c, f, ch, x, rfl, ⟨dx, st, ag, ao, aw, hc⟩, hf, ok, hx, fun H2 s2 => ⟨_, rfl, _, _, rfl, rfl, _, rfl, _, rfl, _, chf_settings T (s2 _ _ hc.at_), _, stf_tolerance T (s2 _ _ hs), _, _, rfl, rfl, Qb (k H2 s2) ?_⟩⟩
    rw [ea, h3, show (ch.out == 0) = true from by rw [beq_iff_eq]; omega, Bool.not_false, Bool.and_true, Bool.and_true, abs_cast]
    rfl
theorem ok_Channel_judge {f : Addr} {fd : FuncData} (F : Fun K "judge" "Channel.judge" s_Channel_judge f fd) (T : Txt K mg C) (D_Channel_is_good : MethD P w K mg base C.ch "is_good" 9 ["self", "known"] (sp_Channel_is_good C)) (D_Channel_latch : MethD P w K mg base C.ch "latch" 1 ["self", "fault"] (sp_Channel_latch C)) : FnOk P w K mg base CX0 10 f fd ["self", "known"] (sp_Channel_judge C) := by
  refine F.ok sc_Channel_judge (fun _ _ _ _ h => h.1) (fun cdv A outer s H vs Q E hr h => ?_)
  obtain ⟨-, h⟩ := h
  obtain ⟨c, v, f, ch, rfl, ⟨dx, st, ag, ao, aw, hc⟩, hf, ok, k⟩ := h
  refine ⟨_, (pss_one (ps_if (pt_val (x_meth (pv 0) D_Channel_is_good (hr.mono (by decide)) (pa_cons (pv 1) pa_nil))) (pss_one (x_put (pv 0) (x_gc rfl T.c_NO_FAULT))) (pss_one (ps_expr (x_meth (pv 0) D_Channel_latch (hr.mono (by decide)) (pa_cons (x_gc rfl T.c_FAULT_WRONG) pa_nil)))))), ?_⟩
  unfold Vbdlac.judged at k
  refine ⟨_, rfl, ch_no _ hc.at_, _, rfl, rfl, c, v, f, ch, rfl, ⟨dx, st, ag, ao, aw, hc⟩, hf, ok, fun H2 s2 => ⟨_, rfl, ifC (fun h1 => ?_) (fun h1 => ?_)⟩⟩
  · rw [if_pos h1] at k
    have hc2 := hc.same s2
    exact ⟨_, rfl, _, _, _, _, chp_fault T hc2.at_ 0, fun H3 w3 => k H3 ⟨dx, st, ag, ao, aw, hc2.store w3.at_ w3.fr (hc2.kg w3.fr) (hc2.ko w3.fr) (hc2.kw w3.fr)⟩ ((Fr.of s2).trans w3.fr)⟩
  · rw [if_neg (by rw [h1]; decide)] at k
    have hc2 := hc.same s2
    exact ⟨_, rfl, ch_no _ hc2.at_, rfl, c, 4, f, ch, rfl, ⟨dx, st, ag, ao, aw, hc2⟩, fun H3 h3 f3 => k H3 h3 ((Fr.of s2).trans f3)⟩
theorem tame_eq (f : Fm) (ch : Ch) (g o : Fq) : Vbdlac.tame f { ch with gain := g, offset := o } = (Vbdlac.fine g && (Vbdlac.fine o && (Vbdlac.within (Vbdlac.floorQ (Vbdlac.addQ (Vbdlac.mulQ g (Vbdlac.interp f.table 0)) o)) (-1000000000000) 1000000000000 && Vbdlac.within (Vbdlac.floorQ (Vbdlac.addQ (Vbdlac.mulQ g (Vbdlac.interp f.table 65535)) o)) (-1000000000000) 1000000000000))) := rfl
theorem ok_Channel_can_have {f : Addr} {fd : FuncData} (F : Fun K "can_have" "Channel.can_have" s_Channel_can_have f fd) (T : Txt K mg C) (D_is_too_large : Def P w K mg base "is_too_large" 1 ["fraction"] (sp_is_too_large C)) (D_rounded_down : Def P w K mg base "rounded_down" 1 ["a"] (sp_rounded_down C)) (D_Channel_value_by : MethD P w K mg base C.ch "value_by" 5 ["self", "gain", "offset", "count"] (sp_Channel_value_by C)) : FnOk P w K mg base CX0 6 f fd ["self", "gain", "offset"] (sp_Channel_can_have C) := by
  refine F.ok sc_Channel_can_have (fun _ _ _ _ h => h.1) (fun cdv A outer s H vs Q E hr h => ?_)
  obtain ⟨-, h⟩ := h
  obtain ⟨c, pg, po, f, ch, g, o, rfl, ⟨dx, st, ag, ao, aw, hc⟩, hf, hg, ho, gd, od, k⟩ := h
  refine ⟨_, (pss_cons (ps_if (PW.pt (pw_or (pt_val (x_call D_is_too_large (hr.mono (by decide)) rfl (pa_cons (pv 1) pa_nil))) (pw_or1 (pt_val (x_call D_is_too_large (hr.mono (by decide)) rfl (pa_cons (pv 2) pa_nil)))))) (pss_one (ps_ret pe_bl)) pss_nil) (pss_cons (ps_for PassesOwn.never rfl (pi_tup (x_tup (pa_cons pe_int (pa_cons (x_gc rfl T.c_LAST_COUNT) pa_nil)))) (pg_name (i := 3) sc_Channel_can_have.nd rfl (Or.inl rfl)) (pss_one (ps_if (pt_cmpR op_gt (pe_callB call_abs (by rfl) T.b_abs boot_abs' (pa_cons (x_call D_rounded_down (hr.mono (by decide)) rfl (pa_cons (x_meth (pv 0) D_Channel_value_by (hr.mono (by decide)) (pa_cons (pv 1) (pa_cons (pv 2) (pa_cons (pv 3) pa_nil)))) pa_nil)) pa_nil)) (x_gc rfl T.c_CORRECTION_BOUND) (nomark _)) (pss_one (ps_ret pe_bl)) pss_nil))) (pss_one (ps_ret pe_bl)))), ?_⟩
  rw [tame_eq] at k
  have k0 := k H (Same.refl H)
  refine ⟨_, rfl, rfl, pg, g, rfl, hg, _, rfl, ifCN (fun h1 => iteT (Qb k0 (by rw [h1, Bool.false_and]))) (fun h1 => ⟨_, rfl, rfl, po, o, rfl, ho, _, rfl, ifCN (fun h2 => Qb k0 (by rw [h2, Bool.false_and, Bool.and_false])) (fun h2 => ?_)⟩)⟩
  rw [h1, h2, Bool.true_and, Bool.true_and] at k
  have bg := fine_bound h1 gd
  have bo := fine_bound h2 od
  refine ⟨small_len (by simp), fun p H2 hN => ⟨p, rfl, ⟨_, SqT.of hN.at_⟩, for_tup (K := K) (a := p) (xs := [.int 0, .int 65535]) (fun i σ H' => Same H2 H' ∧ (∃ v, σ = [some (.ref c), some (.ref pg), some (.ref po), v]) ∧ (0 < i → Vbdlac.within (Vbdlac.floorQ (Vbdlac.addQ (Vbdlac.mulQ g (Vbdlac.interp f.table 0)) o)) (-1000000000000) 1000000000000 = true) ∧ (1 < i → Vbdlac.within (Vbdlac.floorQ (Vbdlac.addQ (Vbdlac.mulQ g (Vbdlac.interp f.table 65535)) o)) (-1000000000000) 1000000000000 = true))
    ⟨Same.refl _, ⟨none, rfl⟩, fun z => absurd z (by decide), fun z => absurd z (by decide)⟩ (fun i σ H' _ ⟨s', _⟩ => SqT.of (s' _ _ hN.at_)) ?_ ?_⟩⟩
  · rintro i x σ H' hx ⟨s', ⟨v, rfl⟩, a0, a1⟩
    have hx2 : (i = 0 ∧ x = .int 0) ∨ (i = 1 ∧ x = .int 65535) := by
      match i, hx with
      | 0, hx => exact .inl ⟨rfl, (Option.some.inj hx).symm⟩
      | 1, hx => exact .inr ⟨rfl, (Option.some.inj hx).symm⟩
      | i + 2, hx => simp at hx
    obtain ⟨n, rfl, hn, hi⟩ : ∃ n : Int, x = .int n ∧ Cnt n ∧ ((i = 0 ∧ n = 0) ∨ (i = 1 ∧ n = 65535)) := by
      rcases hx2 with ⟨e1, e2⟩ | ⟨e1, e2⟩
      · exact ⟨0, e2, ⟨by decide, by decide⟩, .inl ⟨e1, rfl⟩⟩
      · exact ⟨65535, e2, ⟨by decide, by decide⟩, .inr ⟨e1, rfl⟩⟩
    have s1 : Same H H' := hN.same.trans s'
    have hc1 := hc.same s1
    refine ⟨_, rfl, ch_no _ hc1.at_, _, rfl, _, rfl, _, rfl, rfl, c, pg, po, n, f, ch, g, o, rfl, ⟨dx, st, ag, ao, aw, hc1⟩, hf, hg.same s1, ho.same s1, bg, bo, hn, fun p5 H5 s5 fp5 => ⟨rfl, p5, _, rfl, fp5, (by_bound bg bo hf.tbl hn).mono (by decide), _, rfl, _, _, rfl, rfl, _, rfl, ifB (fun h3 => Qb (k H5 (s1.trans s5)) ?_) (fun h3 => ⟨s'.trans s5, ⟨_, rfl⟩, ?_⟩)⟩⟩
    · rw [abs_cast] at h3
      rcases hi with ⟨_, rfl⟩ | ⟨_, rfl⟩
      · rw [← Bool.not_eq_true, Bool.and_eq_true, within_iff, within_iff]
        omega
      · rw [← Bool.not_eq_true, Bool.and_eq_true, within_iff, within_iff]
        omega
    · rw [abs_cast] at h3
      rcases hi with ⟨rfl, rfl⟩ | ⟨rfl, rfl⟩
      · refine ⟨fun _ => ?_, fun z => absurd z (by decide)⟩
        rw [within_iff]
        omega
      · refine ⟨fun _ => a0 (by decide), fun _ => ?_⟩
        rw [within_iff]
        omega
  · rintro σ H' ⟨s', ⟨v, rfl⟩, a0, a1⟩
    refine Qb (k H' (hN.same.trans s')) ?_
    rw [a0 (by decide), a1 (by decide)]
    rfl
theorem ok_Channel_correct {f : Addr} {fd : FuncData} (F : Fun K "correct" "Channel.correct" s_Channel_correct f fd) (T : Txt K mg C) (D_Channel_exact_value : MethD P w K mg base C.ch "exact_value" 6 ["self", "count"] (sp_Channel_exact_value C)) (D_is_below : Def P w K mg base "is_below" 1 ["a", "b"] (sp_is_below C)) (D_divided : Def P w K mg base "divided" 3 ["a", "b"] (sp_divided C)) (D_subtracted : Def P w K mg base "subtracted" 3 ["a", "b"] (sp_subtracted C)) (D_whole : Def P w K mg base "whole" 1 ["number"] (sp_whole C)) (D_multiplied : Def P w K mg base "multiplied" 3 ["a", "b"] (sp_multiplied C)) (D_added : Def P w K mg base "added" 3 ["a", "b"] (sp_added C)) (D_Channel_can_have : MethD P w K mg base C.ch "can_have" 6 ["self", "gain", "offset"] (sp_Channel_can_have C)) : FnOk P w K mg base CX0 7 f fd ["self", "c1", "v1", "c2", "v2"] (sp_Channel_correct C) := by
  refine F.ok sc_Channel_correct (fun _ _ _ _ h => h.1) (fun cdv A outer s H vs Q E hr h => ?_)
  obtain ⟨-, h⟩ := h
  obtain ⟨c, c1, v1, c2, v2, f, ch, rfl, ⟨dx, st, ag, ao, aw, hc⟩, hf, ok, hc1, hc2, hv1, hv2, k⟩ := h
  refine ⟨_, (pss_cons (ps_set (i := 5) sc_Channel_correct.nd rfl (Or.inl rfl) (x_meth (pv 0) D_Channel_exact_value (hr.mono (by decide)) (pa_cons (pv 1) pa_nil))) (pss_cons (ps_set (i := 6) sc_Channel_correct.nd rfl (Or.inl rfl) (x_meth (pv 0) D_Channel_exact_value (hr.mono (by decide)) (pa_cons (pv 3) pa_nil))) (pss_cons (ps_if (pt_not (pt_val (x_call D_is_below (hr.mono (by decide)) rfl (pa_cons (pv 5) (pa_cons (pv 6) pa_nil))))) (pss_one (ps_ret (x_gc rfl T.c_COUNTS_DO_NOT_RISE))) pss_nil) (pss_cons (ps_if (pt_cmpR op_ge (pv 2) (pv 4) (nomark _)) (pss_one (ps_ret (x_gc rfl T.c_VALUES_DO_NOT_RISE))) pss_nil) (pss_cons (ps_set (i := 7) sc_Channel_correct.nd rfl (Or.inl rfl) (x_call D_divided (hr.mono (by decide)) rfl (pa_cons (x_call D_whole (hr.mono (by decide)) rfl (pa_cons (pe_op op_sub (pv 4) (pv 2)) pa_nil)) (pa_cons (x_call D_subtracted (hr.mono (by decide)) rfl (pa_cons (pv 6) (pa_cons (pv 5) pa_nil))) pa_nil)))) (pss_cons (ps_set (i := 8) sc_Channel_correct.nd rfl (Or.inl rfl) (x_call D_multiplied (hr.mono (by decide)) rfl (pa_cons (pv 7) (pa_cons (x_fld (pv 0)) pa_nil)))) (pss_cons (ps_set (i := 9) sc_Channel_correct.nd rfl (Or.inl rfl) (x_call D_added (hr.mono (by decide)) rfl (pa_cons (x_call D_multiplied (hr.mono (by decide)) rfl (pa_cons (pv 7) (pa_cons (x_call D_subtracted (hr.mono (by decide)) rfl (pa_cons (x_fld (pv 0)) (pa_cons (pv 5) pa_nil))) pa_nil))) (pa_cons (x_call D_whole (hr.mono (by decide)) rfl (pa_cons (pv 2) pa_nil)) pa_nil)))) (pss_cons (ps_if (pt_not (pt_val (x_meth (pv 0) D_Channel_can_have (hr.mono (by decide)) (pa_cons (pv 8) (pa_cons (pv 9) pa_nil))))) (pss_one (ps_ret (x_gc rfl T.c_CORRECTION_TOO_LARGE))) pss_nil) (pss_cons (x_put (pv 0) (pv 8)) (pss_cons (x_put (pv 0) (pv 9)) (pss_one (ps_ret (x_gc rfl T.c_DONE))))))))))))), ?_⟩
  have b1 := exact_bound hf ok hc1
  have b2 := exact_bound hf ok hc2
  refine ⟨_, rfl, ch_no _ hc.at_, _, rfl, rfl, c, c1, f, ch, rfl, ⟨dx, st, ag, ao, aw, hc⟩, hf, ok, hc1, fun p1 H1 s1 f1 => ?_⟩
  have d1 := hc.same s1
  refine ⟨_, rfl, ch_no _ d1.at_, _, rfl, rfl, c, c2, f, ch, rfl, ⟨dx, st, ag, ao, aw, d1⟩, hf, ok, hc2, fun p2 H2 s2 f2 => ?_⟩
  have d2 := d1.same s2
  have f1 := f1.same s2
  have t2 := s1.trans s2
  refine ⟨_, rfl, _, rfl, rfl, p1, p2, _, _, rfl, f1, f2, b1.mono (by decide), b2.mono (by decide), _, rfl, ifCN (fun h1 => ?_) (fun h1 => ⟨_, rfl, _, rfl, _, _, rfl, rfl, _, rfl, ifB (fun h2 => ?_) (fun h2 => ?_)⟩)⟩
  · have ec : corr f ch c1 v1 c2 v2 = (ch, -4) := by
      unfold corr
      rw [if_pos h1]
    rw [ec] at k
    exact k H2 ⟨dx, st, ag, ao, aw, d2⟩ (Fr.of t2)
  · have ec : corr f ch c1 v1 c2 v2 = (ch, -5) := by
      unfold corr
      rw [if_neg (by rw [h1]; decide), if_pos (by omega)]
    rw [ec] at k
    exact k H2 ⟨dx, st, ag, ao, aw, d2⟩ (Fr.of t2)
  have ec : corr f ch c1 v1 c2 v2 = if Vbdlac.tame f (Vbdlac.corrected ch (Vbdlac.exact f ch c1) (Vbdlac.exact f ch c2) v1 v2) = false then (ch, -6) else (Vbdlac.corrected ch (Vbdlac.exact f ch c1) (Vbdlac.exact f ch c2) v1 v2, 1) := by
    unfold corr
    rw [if_neg (by rw [h1]; decide), if_neg (by omega)]
  rw [ec] at k
  have sp := sub_pos b1.dp b2.dp h1
  have bw : QB 32 (Vbdlac.whole (v2 - v1)) := QB.whole (by omega) (by decide)
  have bv : QB 32 (Vbdlac.whole v1) := QB.whole (by omega) (by decide)
  have bs := b2.sub b1
  have bh := bw.div bs sp
  have gp := corrected_gain_pos (c := ch) (v1 := v1) (v2 := v2) b1.dp b2.dp h1 (by omega) ok.gp ok.g.dp
  have op := corrected_off_den (c := ch) (v1 := v1) (v2 := v2) b1.dp b2.dp h1 ok.o.dp
  have bo := ok.o.sub b1
  have bm := bh.mul bo
  refine ⟨_, rfl, _, rfl, _, _, rfl, rfl, rfl, v2 - v1, rfl, fun p3 H3 s3 f3 => ⟨_, rfl, _, rfl, rfl, p2, p1, _, _, rfl, f2.same s3, f1.same s3, b2.mono (by decide), b1.mono (by decide), trivial, fun p4 H4 s4 f4 => ⟨rfl, p3, p4, _, _, rfl, f3.same s4, f4, bw.mono (by decide), bs.mono (by decide), sp, fun p5 H5 s5 f5 => ?_⟩⟩⟩
  have t5 : Same H2 H5 := (s3.trans s4).trans s5
  have d5 := d2.same t5
  refine ⟨_, rfl, _, rfl, _, chf_gain T d5.at_, rfl, p5, ag, _, _, rfl, f5, d5.ga, bh.mono (by decide), ok.g.mono (by decide), trivial, fun p6 H6 s6 f6 => ?_⟩
  have d6 := d5.same s6
  refine ⟨_, rfl, _, rfl, _, chf_offset T d6.at_, _, rfl, rfl, ao, p1, _, _, rfl, d6.off, f1.same (t5.trans s6), ok.o.mono (by decide), b1.mono (by decide), trivial, fun p7 H7 s7 f7 => ⟨rfl, p5, p7, _, _, rfl, (f5.same s6).same s7, f7, bh.mono (by decide), bo.mono (by decide), trivial, fun p8 H8 s8 f8 => ⟨_, rfl, rfl, v1, rfl, fun p9 H9 s9 f9 => ⟨rfl, p8, p9, _, _, rfl, f8.same s9, f9, bm.mono (by decide), bv.mono (by decide), trivial, fun p10 H10 s10 f10 => ?_⟩⟩⟩⟩
  have t10 : Same H6 H10 := ((s7.trans s8).trans s9).trans s10
  have d10 := d6.same t10
  refine ⟨_, rfl, ch_no _ d10.at_, _, rfl, _, rfl, rfl, c, p6, p10, f, ch, _, _, rfl, ⟨dx, st, ag, ao, aw, d10⟩, hf, f6.same t10, f10, gp.2, op, fun H11 s11 => ⟨_, rfl, ifCN (fun h3 => ?_) (fun h3 => ?_)⟩⟩
  · have h3 : Vbdlac.tame f (Vbdlac.corrected ch (Vbdlac.exact f ch c1) (Vbdlac.exact f ch c2) v1 v2) = false := h3
    rw [if_pos h3] at k
    exact k H11 ⟨dx, st, ag, ao, aw, d10.same s11⟩ (Fr.of (((t2.trans t5).trans s6).trans (t10.trans s11)))
  · have h3 : Vbdlac.tame f (Vbdlac.corrected ch (Vbdlac.exact f ch c1) (Vbdlac.exact f ch c2) v1 v2) = true := h3
    rw [if_neg (by rw [h3]; decide)] at k
    have d11 := d10.same s11
    refine ⟨_, rfl, _, rfl, _, _, _, _, chp_gain T d11.at_ p6, fun H12 w12 => ⟨_, rfl, _, rfl, _, _, _, _, chp_offset T w12.at_ p10, fun H13 w13 => ?_⟩⟩
    have fr : Fr [c] H11 H13 := w12.fr.trans w13.fr
    exact k H13 ⟨dx, st, p6, p10, aw, d11.store (ch' := Vbdlac.corrected ch (Vbdlac.exact f ch c1) (Vbdlac.exact f ch c2) v1 v2) w13.at_ fr (fr.keep (mutC d11.at_) ((f6.same t10).same s11) (.inl rfl)) (fr.keep (mutC d11.at_) (f10.same s11) (.inl rfl)) (d11.kw fr)⟩ ((Fr.of (((t2.trans t5).trans s6).trans (t10.trans s11))).trans fr)
theorem ok_Channel_least_reaching {f : Addr} {fd : FuncData} (F : Fun K "least_reaching" "Channel.least_reaching" s_Channel_least_reaching f fd) (T : Txt K mg C) (D_Channel_whole_value : MethD P w K mg base C.ch "whole_value" 7 ["self", "count"] (sp_Channel_whole_value C)) : FnOk P w K mg base CX0 8 f fd ["self", "first", "beyond", "wanted"] (sp_Channel_least_reaching C) := by
  refine F.ok sc_Channel_least_reaching (fun _ _ _ _ h => h.1) (fun cdv A outer s H vs Q E hr h => ?_)
  obtain ⟨-, h⟩ := h
  obtain ⟨c, a, b, v, f, ch, rfl, ⟨dx, st, ag, ao, aw, hc⟩, hf, ok, hab, hb, k⟩ := h
  refine ⟨_, (pss_cons (ps_set (i := 4) sc_Channel_least_reaching.nd rfl (Or.inl rfl) (pv 1)) (pss_cons (ps_set (i := 5) sc_Channel_least_reaching.nd rfl (Or.inl rfl) (pv 2)) (pss_cons (ps_while PassesOwn.never (pt_cmpR op_lt (pv 4) (pv 5) (nomark _)) (pss_cons (ps_set (i := 6) sc_Channel_least_reaching.nd rfl (Or.inl rfl) (pe_op x_opdiv (pe_op op_add (pv 4) (pv 5)) pe_int)) (pss_one (ps_if (pt_cmpR op_ge (x_meth (pv 0) D_Channel_whole_value (hr.mono (by decide)) (pa_cons (pv 6) pa_nil)) (pv 3) (nomark _)) (pss_one (ps_set (i := 5) sc_Channel_least_reaching.nd rfl (Or.inl rfl) (pv 6))) (pss_one (ps_set (i := 4) sc_Channel_least_reaching.nd rfl (Or.inl rfl) (pe_op op_add (pv 6) pe_int))))))) (pss_one (ps_ret (pv 4)))))), ?_⟩
  have mono : ∀ {i j : Int}, i ≤ j → Vbdlac.value f ch i ≤ Vbdlac.value f ch j := fun h => value_mono hf.tbl.rise (Int.le_of_lt ok.gp) ok.g.dp ok.o.dp h
  refine ⟨_, rfl, _, rfl, ?_⟩
  refine while_by (fun σ H' => Same H H' ∧ ∃ (lo hi : Nat) (r : Option V), σ = [some (.ref c), some (.int (a : Int)), some (.int (b : Int)), some (.int v), some (.int (lo : Int)), some (.int (hi : Int)), r] ∧ a ≤ lo ∧ lo ≤ hi ∧ hi ≤ b ∧ (∀ i : Nat, a ≤ i → i < lo → Vbdlac.value f ch (i : Int) < v) ∧ (∀ i : Nat, hi ≤ i → i < b → v ≤ Vbdlac.value f ch (i : Int)))
    (fun σ _ => match σ with | [_, _, _, _, some (.int lo), some (.int hi), _] => (hi - lo).toNat | _ => 0) ⟨Same.refl _, a, b, none, rfl, Nat.le_refl _, hab, Nat.le_refl _, fun i h1 h2 => absurd h1 (by omega), fun i h1 h2 => absurd h1 (by omega)⟩ ?_ ?_
  · rintro σ H' ⟨s', lo, hi, r, rfl, h1, h2, h3, h4, h5⟩
    refine ⟨_, rfl, _, rfl, _, _, rfl, rfl, _, rfl, ifB (fun hlt => ?_) (fun hge => ?_)⟩
    · have hlt : (lo : Int) < (hi : Int) := hlt
      have en : ((lo : Int) + (hi : Int)) / 2 = (((lo + hi) / 2 : Nat) : Int) := by omega
      have hc1 := hc.same s'
      refine ⟨_, rfl, _, rfl, _, _, rfl, rfl, _, _, rfl, rfl, ⟨by decide, sm2⟩, ?_⟩
      refine ⟨_, rfl, ch_no _ hc1.at_, _, rfl, rfl, c, ((lo : Int) + (hi : Int)) / 2, f, ch, rfl, ⟨dx, st, ag, ao, aw, hc1⟩, hf, ok, ⟨by omega, by omega⟩, fun H2 s2 => ⟨_, rfl, _, _, rfl, rfl, _, rfl, ifB (fun hv => ?_) (fun hv => ?_)⟩⟩
      · refine ⟨_, rfl, ⟨s'.trans s2, lo, (lo + hi) / 2, some (.int (((lo : Int) + (hi : Int)) / 2)), ?_, h1, by omega, by omega, h4, fun i g1 g2 => ?_⟩, ?_⟩
        · rw [← en]
          rfl
        · have hv : v ≤ Vbdlac.value f ch (((lo : Int) + (hi : Int)) / 2) := hv
          exact Int.le_trans hv (mono (by omega))
        · show ((((lo : Int) + (hi : Int)) / 2) - (lo : Int)).toNat < ((hi : Int) - (lo : Int)).toNat
          omega
      · refine ⟨_, rfl, _, _, rfl, rfl, ⟨s'.trans s2, (lo + hi) / 2 + 1, hi, some (.int (((lo : Int) + (hi : Int)) / 2)), ?_, by omega, by omega, h3, fun i g1 g2 => ?_, h5⟩, ?_⟩
        · rw [show ((((lo + hi) / 2 + 1 : Nat)) : Int) = ((lo : Int) + (hi : Int)) / 2 + 1 by omega]
          rfl
        · have hv : ¬ v ≤ Vbdlac.value f ch (((lo : Int) + (hi : Int)) / 2) := hv
          have := mono (i := (i : Int)) (j := ((lo : Int) + (hi : Int)) / 2) (by omega)
          omega
        · show ((hi : Int) - ((((lo : Int) + (hi : Int)) / 2) + 1)).toNat < ((hi : Int) - (lo : Int)).toNat
          omega
    · have hge : ¬ (lo : Int) < (hi : Int) := hge
      exact ⟨_, rfl, k lo H' s' h1 (by omega) h4 fun i g1 g2 => h5 i (by omega) g2⟩
  · intro σ H' Q1 Q2 hm ⟨v1, h1, v2, h2, i, j, h3, h4, b, h5, h6⟩
    exact ⟨v1, h1, v2, h2, i, j, h3, h4, b, h5, hm _ _ h6⟩
end
end Tw
set_option Elab.async false
set_option linter.all false
set_option maxRecDepth 100000
set_option maxHeartbeats 2000000
namespace Tw
open PySem PySem.Spec PyProof.Rows L2 L3
section
variable {P : Program} {w : World} {K : PySem.W.Frag} {mg : Str → Option Value} {base : Heap} {C : Cs}
theorem ok_Limits_init {f : Addr} {fd : FuncData} (F : Fun K "__init__" "Limits.__init__" s_Limits_init f fd) (T : Txt K mg C)  : FnOk P w K mg base CX0 1 f fd ["self", "low", "high", "back"] (sp_Limits_init C) := by
  refine F.ok sc_Limits_init (fun _ _ _ _ h => h.1) (fun cdv A outer s H vs Q E hr h => ?_)
  obtain ⟨-, h⟩ := h
  obtain ⟨p, dx, a, b, c, rfl, hp, k⟩ := h
  refine ⟨_, (pss_cons (x_put (pv 0) (pv 1)) (pss_cons (x_put (pv 0) (pv 2)) (pss_cons (x_put (pv 0) (pv 3)) (pss_cons (x_put (pv 0) pe_int) (pss_cons (x_put (pv 0) pe_int) (pss_one (x_put (pv 0) (x_gc rfl T.c_NO_ALARM)))))))), ?_⟩
  refine ⟨_, rfl, _, rfl, _, _, _, _, ⟨_, rfl, hp, T.cl_li, T.n_li_low, (by show (0 : Nat) < 1000; decide), rfl⟩, fun H1 w1 => ?_⟩
  refine ⟨_, rfl, _, rfl, _, _, _, _, ⟨_, rfl, w1.at_, T.cl_li, T.n_li_high, (by show (1 : Nat) < 1000; decide), rfl⟩, fun H2 w2 => ?_⟩
  refine ⟨_, rfl, _, rfl, _, _, _, _, ⟨_, rfl, w2.at_, T.cl_li, T.n_li_back, (by show (2 : Nat) < 1000; decide), rfl⟩, fun H3 w3 => ?_⟩
  refine ⟨_, rfl, _, _, _, _, ⟨_, rfl, w3.at_, T.cl_li, T.n_li_below, (by show (3 : Nat) < 1000; decide), rfl⟩, fun H4 w4 => ?_⟩
  refine ⟨_, rfl, _, _, _, _, ⟨_, rfl, w4.at_, T.cl_li, T.n_li_above, (by show (4 : Nat) < 1000; decide), rfl⟩, fun H5 w5 => ?_⟩
  refine ⟨_, rfl, _, _, _, _, ⟨_, rfl, w5.at_, T.cl_li, T.n_li_alarm, (by show (5 : Nat) < 1000; decide), rfl⟩, fun H6 w6 => ?_⟩
  exact k H6 ⟨dx, w6.at_⟩ (((((w1.fr.trans w2.fr).trans w3.fr).trans w4.fr).trans w5.fr).trans w6.fr)
theorem ok_Limits_alarm_by {f : Addr} {fd : FuncData} (F : Fun K "alarm_by" "Limits.alarm_by" s_Limits_alarm_by f fd) (T : Txt K mg C)  : FnOk P w K mg base CX0 1 f fd ["self", "reading", "times"] (sp_Limits_alarm_by C) := by
  refine F.ok sc_Limits_alarm_by (fun _ _ _ _ h => h.1) (fun cdv A outer s H vs Q E hr h => ?_)
  obtain ⟨-, h⟩ := h
  obtain ⟨p, v, t, l, rfl, ⟨dx, hp⟩, k⟩ := h
  refine ⟨_, (pss_cons (ps_if (pt_cmpR x_opeq (x_fld (pv 0)) (pv 2) (nomark _)) (pss_one (ps_ret (x_gc rfl T.c_ALARM_HIGH))) pss_nil) (pss_cons (ps_if (pt_cmpR x_opeq (x_fld (pv 0)) (pv 2) (nomark _)) (pss_one (ps_ret (x_gc rfl T.c_ALARM_LOW))) pss_nil) (pss_cons (ps_if (PW.pt (pw_and (pt_cmpR x_opeq (x_fld (pv 0)) (x_gc rfl T.c_ALARM_HIGH) (nomark _)) (pw_and1 (pt_cmpR op_le (pv 1) (pe_op op_sub (x_fld (pv 0)) (x_fld (pv 0))) (nomark _))))) (pss_one (ps_ret (x_gc rfl T.c_NO_ALARM))) pss_nil) (pss_cons (ps_if (PW.pt (pw_and (pt_cmpR x_opeq (x_fld (pv 0)) (x_gc rfl T.c_ALARM_LOW) (nomark _)) (pw_and1 (pt_cmpR op_ge (pv 1) (pe_op op_add (x_fld (pv 0)) (x_fld (pv 0))) (nomark _))))) (pss_one (ps_ret (x_gc rfl T.c_NO_ALARM))) pss_nil) (pss_one (ps_ret (x_fld (pv 0)))))))), ?_⟩
  unfold alarmBy at k
  refine ⟨_, rfl, _, lif_above T hp, _, rfl, _, _, rfl, rfl, _, rfl, ifB (fun h1 => ?_) (fun h1 => ?_)⟩
  · rw [if_pos (by omega)] at k
    exact k
  rw [if_neg (by omega)] at k
  refine ⟨_, rfl, _, lif_below T hp, _, rfl, _, _, rfl, rfl, _, rfl, ifB (fun h2 => ?_) (fun h2 => ?_)⟩
  · rw [if_pos (by omega)] at k
    exact k
  rw [if_neg (by omega)] at k
  refine nx_of ?_
  dsimp only
  refine seq_if (fun H1 => H1 = H ∧ ¬ (l.alarm = 2 ∧ v ≤ l.high - l.back)) ?_ ?_
  · rintro H1 ⟨rfl, h3⟩
    rw [if_neg h3] at k
    refine ⟨_, rfl, _, lif_alarm T hp, _, _, rfl, rfl, _, rfl, ifB (fun h4 => ⟨_, rfl, _, rfl, _, lif_low T hp, _, rfl, _, lif_back T hp, _, _, rfl, rfl, _, _, rfl, rfl, _, rfl, ifB (fun h5 => ?_) (fun h5 => ⟨_, rfl, _, lif_alarm T hp, ?_⟩)⟩) (fun h4 => iteF ⟨_, rfl, _, lif_alarm T hp, ?_⟩)⟩
    · rw [if_pos ⟨by omega, by omega⟩] at k
      exact k
    · rw [if_neg (by omega)] at k
      exact k
    · rw [if_neg (by omega)] at k
      exact k
  · intro rest
    refine ⟨_, rfl, _, lif_alarm T hp, _, _, rfl, rfl, _, rfl, ifB (fun h4 => ⟨_, rfl, _, rfl, _, lif_high T hp, _, rfl, _, lif_back T hp, _, _, rfl, rfl, _, _, rfl, rfl, _, rfl, ifB (fun h5 => ?_) (fun h5 => rest H ⟨rfl, by omega⟩)⟩) (fun h4 => iteF (rest H ⟨rfl, by omega⟩))⟩
    rw [if_pos ⟨by omega, by omega⟩] at k
    exact k
theorem ok_Limits_watch {f : Addr} {fd : FuncData} (F : Fun K "watch" "Limits.watch" s_Limits_watch f fd) (T : Txt K mg C) (D_Limits_alarm_by : MethD P w K mg base C.li "alarm_by" 1 ["self", "reading", "times"] (sp_Limits_alarm_by C)) : FnOk P w K mg base CX0 2 f fd ["self", "reading", "times"] (sp_Limits_watch C) := by
  refine F.ok sc_Limits_watch (fun _ _ _ _ h => h.1) (fun cdv A outer s H vs Q E hr h => ?_)
  obtain ⟨-, h⟩ := h
  obtain ⟨p, v, t, l, rfl, ⟨dx, hp⟩, k⟩ := h
  refine ⟨_, (pss_cons (x_put (pv 0) (pe_ifExp (pt_cmpR op_gt (pv 1) (x_fld (pv 0)) (nomark _)) (pe_callB (call_min2 rfl) (by rfl) T.b_min boot_min' (pa_cons (pe_op op_add (x_fld (pv 0)) pe_int) (pa_cons (pv 2) pa_nil))) pe_int)) (pss_cons (x_put (pv 0) (pe_ifExp (pt_cmpR op_lt (pv 1) (x_fld (pv 0)) (nomark _)) (pe_callB (call_min2 rfl) (by rfl) T.b_min boot_min' (pa_cons (pe_op op_add (x_fld (pv 0)) pe_int) (pa_cons (pv 2) pa_nil))) pe_int)) (pss_one (x_put (pv 0) (x_meth (pv 0) D_Limits_alarm_by (hr.mono (by decide)) (pa_cons (pv 1) (pa_cons (pv 2) pa_nil))))))), ?_⟩
  obtain ⟨ab, hab⟩ : ∃ ab : Nat, ab = if l.high < v then min (l.above + 1) t else 0 := ⟨_, rfl⟩
  obtain ⟨be, hbe⟩ : ∃ be : Nat, be = if v < l.low then min (l.below + 1) t else 0 := ⟨_, rfl⟩
  have ew : Vbdlac.watched t l v = { l with above := ab, below := be, alarm := alarmBy { l with above := ab, below := be } v t } := by
    subst hab hbe
    rfl
  rw [ew] at k
  refine seq_cut (fun H1 => Wr H p (.ins C.li dx (liF l.low l.high l.back (l.below : Int) (ab : Int) (l.alarm : Int))) H1) ?_ ?_
  · intro H1 w1
    refine seq_cut (fun H2 => Wr H1 p (.ins C.li dx (liF l.low l.high l.back (be : Int) (ab : Int) (l.alarm : Int))) H2) ?_ ?_
    · intro H2 w2
      exact ⟨_, rfl, li_no _ w2.at_, _, rfl, _, rfl, rfl, p, v, t, { l with above := ab, below := be }, rfl, ⟨dx, w2.at_⟩, _, rfl, _, _, _, _, lip_alarm T w2.at_ _, fun H3 w3 => k H3 ⟨dx, w3.at_⟩ ((w1.fr.trans w2.fr).trans w3.fr)⟩
    · intro rest
      refine ⟨_, rfl, _, rfl, _, lif_low T w1.at_, _, _, rfl, rfl, _, rfl, ifB (fun h1 => ⟨_, rfl, _, lif_below T w1.at_, _, _, rfl, rfl, _, rfl, _, _, rfl, _, rfl, _, _, _, _, lip_below T w1.at_ (if (t : Int) < (l.below : Int) + 1 then (t : Int) else (l.below : Int) + 1), fun H2 w2 => rest H2 ?_⟩) (fun h1 => ⟨_, rfl, _, _, _, _, lip_below T w1.at_ 0, fun H2 w2 => rest H2 ?_⟩)⟩
      · have h1 : v < l.low := h1
        rw [min_cast] at w2
        rw [hbe, if_pos h1]
        exact w2
      · have h1 : ¬ v < l.low := h1
        rw [hbe, if_neg h1]
        exact w2
  · intro rest
    refine ⟨_, rfl, _, rfl, _, lif_high T hp, _, _, rfl, rfl, _, rfl, ifB (fun h1 => ⟨_, rfl, _, lif_above T hp, _, _, rfl, rfl, _, rfl, _, _, rfl, _, rfl, _, _, _, _, lip_above T hp (if (t : Int) < (l.above : Int) + 1 then (t : Int) else (l.above : Int) + 1), fun H2 w2 => rest H2 ?_⟩) (fun h1 => ⟨_, rfl, _, _, _, _, lip_above T hp 0, fun H2 w2 => rest H2 ?_⟩)⟩
    · have h1 : l.high < v := h1
      rw [min_cast] at w2
      rw [hab, if_pos h1]
      exact w2
    · have h1 : ¬ l.high < v := h1
      rw [hab, if_neg h1]
      exact w2
theorem ok_Settings_init {f : Addr} {fd : FuncData} (F : Fun K "__init__" "Settings.__init__" s_Settings_init f fd) (T : Txt K mg C)  : FnOk P w K mg base CX0 1 f fd ["self", "given", "points"] (sp_Settings_init C) := by
  refine F.ok sc_Settings_init (fun _ _ _ _ h => h.1) (fun cdv A outer s H vs Q E hr h => ?_)
  obtain ⟨-, h⟩ := h
  obtain ⟨x, dx, g, pl, w, m, z, d, t, lo, hi, l, rfl, hx, hg, hl, k⟩ := h
  refine ⟨_, (pss_cons (x_put (pv 0) (x_ixl (pv 1) pe_int)) (pss_cons (x_put (pv 0) (x_ixl (pv 1) pe_int)) (pss_cons (x_put (pv 0) (x_ixl (pv 1) pe_int)) (pss_cons (x_put (pv 0) (x_ixl (pv 1) pe_int)) (pss_cons (x_put (pv 0) (x_ixl (pv 1) pe_int)) (pss_cons (x_put (pv 0) (x_ixl (pv 1) pe_int)) (pss_cons (x_put (pv 0) (x_ixl (pv 1) pe_int)) (pss_one (x_put (pv 0) (pv 2)))))))))), ?_⟩
  refine ⟨_, rfl, _, IxL.k0 hg, _, rfl, _, _, _, _, ⟨_, rfl, hx, T.cl_st, T.n_st_width, (by show (0 : Nat) < 1000; decide), rfl⟩, fun H1 w1 => ?_⟩
  have g1 := keepI hg (.inl rfl) hx (by show (0 : Nat) ≠ 8; decide) w1.fr
  refine ⟨_, rfl, _, IxL.k1 g1, _, rfl, _, _, _, _, ⟨_, rfl, w1.at_, T.cl_st, T.n_st_tolerance, (by show (1 : Nat) < 1000; decide), rfl⟩, fun H2 w2 => ?_⟩
  have g2 := keepI g1 (.inl rfl) w1.at_ (by show (1 : Nat) ≠ 8; decide) w2.fr
  refine ⟨_, rfl, _, IxL.k2 g2, _, rfl, _, _, _, _, ⟨_, rfl, w2.at_, T.cl_st, T.n_st_times, (by show (2 : Nat) < 1000; decide), rfl⟩, fun H3 w3 => ?_⟩
  have g3 := keepI g2 (.inl rfl) w2.at_ (by show (2 : Nat) ≠ 8; decide) w3.fr
  refine ⟨_, rfl, _, IxL.k3 g3, _, rfl, _, _, _, _, ⟨_, rfl, w3.at_, T.cl_st, T.n_st_stuck, (by show (3 : Nat) < 1000; decide), rfl⟩, fun H4 w4 => ?_⟩
  have g4 := keepI g3 (.inl rfl) w3.at_ (by show (3 : Nat) ≠ 8; decide) w4.fr
  refine ⟨_, rfl, _, IxL.k4 g4, _, rfl, _, _, _, _, ⟨_, rfl, w4.at_, T.cl_st, T.n_st_side, (by show (4 : Nat) < 1000; decide), rfl⟩, fun H5 w5 => ?_⟩
  have g5 := keepI g4 (.inl rfl) w4.at_ (by show (4 : Nat) ≠ 8; decide) w5.fr
  refine ⟨_, rfl, _, IxL.k5 g5, _, rfl, _, _, _, _, ⟨_, rfl, w5.at_, T.cl_st, T.n_st_lo, (by show (5 : Nat) < 1000; decide), rfl⟩, fun H6 w6 => ?_⟩
  have g6 := keepI g5 (.inl rfl) w5.at_ (by show (5 : Nat) ≠ 8; decide) w6.fr
  refine ⟨_, rfl, _, IxL.k6 g6, _, rfl, _, _, _, _, ⟨_, rfl, w6.at_, T.cl_st, T.n_st_hi, (by show (6 : Nat) < 1000; decide), rfl⟩, fun H7 w7 => ?_⟩
  refine ⟨_, rfl, _, rfl, _, _, _, _, ⟨_, rfl, w7.at_, T.cl_st, T.n_st_points, (by show (7 : Nat) < 1000; decide), rfl⟩, fun H8 w8 => ?_⟩
  have fr : Fr [x] H H8 := ((((((w1.fr.trans w2.fr).trans w3.fr).trans w4.fr).trans w5.fr).trans w6.fr).trans w7.fr).trans w8.fr
  exact k H8 ⟨dx, pl, w8.at_, hl.fr fr (mut1 hx ⟨by show (100 : Nat) ≠ 0; decide, by show (100 : Nat) ≠ 108; decide⟩)⟩ fr
theorem ok_Settings_has_in_range {f : Addr} {fd : FuncData} (F : Fun K "has_in_range" "Settings.has_in_range" s_Settings_has_in_range f fd) (T : Txt K mg C)  : FnOk P w K mg base CX0 1 f fd ["self", "count"] (sp_Settings_has_in_range C) := by
  refine F.ok sc_Settings_has_in_range (fun _ _ _ _ h => h.1) (fun cdv A outer s H vs Q E hr h => ?_)
  obtain ⟨-, h⟩ := h
  obtain ⟨x, n, f, rfl, ⟨dx, pl, hx, hp⟩, k⟩ := h
  refine ⟨_, (pss_one (ps_ret (pe_chain op_le op_le (x_fld (pv 0)) (pv 1) (x_fld (pv 0))))), ?_⟩
  refine ⟨_, rfl, _, stf_lo T hx, _, rfl, _, _, rfl, rfl, _, rfl, ifB (fun h1 => ⟨_, rfl, _, stf_hi T hx, _, _, rfl, rfl, Qb k ?_⟩) (fun h1 => Qb k ?_)⟩
  · unfold Vbdlac.inRange
    rw [decide_eq_true h1]
    rfl
  · unfold Vbdlac.inRange
    rw [decide_eq_false h1]
    rfl
end
end Tw
set_option Elab.async false
set_option linter.all false
set_option maxRecDepth 100000
set_option maxHeartbeats 2000000
namespace Tw
open PySem PySem.Spec PyProof.Rows L2 L3
theorem _root_.L3.Fr.free1 {H H' : Hp} {a b : Addr} (f : Fr [a] H H') {u : HO} (ha : H' a = some u) (h : H' b = none) : H b = none := by
  cases q : H b with
  | none => rfl
  | some o =>
    have n : b ≠ a := fun e => by
      subst e
      rw [ha] at h
      cases h
    rw [f b o (by simpa using n) q] at h
    cases h
theorem _root_.L3.Fr.fresh {H H1 H2 : Hp} {a : Addr} (s : Same H H1) (f : Fr [a] H1 H2) (n : H a = none) : Same H H2 := fun b o h => f b o (by
  have e : b ≠ a := fun e => by
    subst e
    rw [n] at h
    cases h
  simpa using e) (s b o h)
theorem same_upd {H H1 : Hp} {D : Addr} {o : HO} (s : Same H H1) (n : H D = none) : Same H (upd H1 D o) := fun b u h => by
  rw [upd_ne (ne_of_none h n)]
  exact s b u h
theorem mutN {H : Hp} {a : Addr} {o : HO} (n : Nat) (h : H a = some o) (k : kind o = n) (h0 : n ≠ 0 := by decide) (h8 : n ≠ 108 := by decide) : MutL H [a] := mut1 h ⟨by rw [k]; exact h0, by rw [k]; exact h8⟩
theorem out1 {a b : Addr} (h : a ≠ b) : a ∉ [b] := by simpa using h
section
variable {C : Cs} {H H' : Hp} {c dx st g o w l : Addr} {f : Fm} {ch : Ch} {l0 : List Addr} {a : SA} {s : Sn}
theorem ChC.fr (h : ChC C H c dx st g o w f ch) (s : Fr l0 H H') (m : MutL H l0) (n : c ∉ l0) : ChC C H' c dx st g o w f ch :=
  ⟨s _ _ n h.at_, h.set.fr s m, s.keep m h.ga (.inl rfl), s.keep m h.off (.inl rfl), s.keep m h.win (.inl rfl)⟩
theorem SeC.x_ne0 (h : SeC C H a dx st l s) : a.c0 ≠ a.x := by
  obtain ⟨u, e1, e2⟩ := h.a0.kind
  exact ne_kind e1 h.at_ (by rw [e2]; show (107 : Nat) ≠ 104; decide)
theorem SeC.x_ne1 (h : SeC C H a dx st l s) : a.c1 ≠ a.x := by
  obtain ⟨u, e1, e2⟩ := h.a1.kind
  exact ne_kind e1 h.at_ (by rw [e2]; show (107 : Nat) ≠ 104; decide)
theorem SeC.store (h : SeC C H a dx st l s) {u' : Nat} {L' : Option Addr} {lm' : Option Lm} (e : H' a.x = some (.ins C.se dx (seF st l (u' : Int) (limV L')))) (fr : Fr [a.x] H H') (hl : LimO C H' L' lm') :
    SeC C H' { a with L := L' } dx st l { s with unlike := u', limits := lm' } := by
  have m : MutL H [a.x] := mutN 104 h.at_ rfl
  exact ⟨e, h.set.fr fr m, fr.keep m h.chs (.inl rfl), h.a0.fr fr m (out1 h.x_ne0), h.a1.fr fr m (out1 h.x_ne1), h.ne, hl⟩
theorem SeC.limx (h : SeC C H a dx st l s) (fr : Fr [a.x] H H') : LimO C H' a.L s.limits := h.lim.fr fr fun p hp => by
  obtain ⟨u, e1, e2⟩ := h.lim.kind p hp
  exact out1 (ne_kind e1 h.at_ (by rw [e2]; show (106 : Nat) ≠ 104; decide))
theorem SeC.unl (h : SeC C H a dx st l s) {u' : Nat} (e : H' a.x = some (.ins C.se dx (seF st l (u' : Int) (limV a.L)))) (fr : Fr [a.x] H H') : SeC C H' a dx st l { s with unlike := u' } := h.store e fr (h.limx fr)
theorem SeC.chA (h : SeC C H a dx st l s) {ca : Ch} (hc : ChAt C H' a.c0 s.form ca) (fr : Fr [a.c0] H H') : SeC C H' a dx st l { s with a := ca } := by
  obtain ⟨u, e1, e2⟩ := h.a0.kind
  have m : MutL H [a.c0] := mutN 107 e1 e2
  refine ⟨fr _ _ (out1 (Ne.symm h.x_ne0)) h.at_, h.set.fr fr m, fr.keep m h.chs (.inl rfl), hc, h.a1.fr fr m (out1 (Ne.symm h.ne)), h.ne, h.lim.fr fr fun p hp => ?_⟩
  obtain ⟨u2, e3, e4⟩ := h.lim.kind p hp
  exact out1 (ne_kind e3 e1 (by rw [e2, e4]; decide))
theorem SeC.chB (h : SeC C H a dx st l s) {cb : Ch} (hc : ChAt C H' a.c1 s.form cb) (fr : Fr [a.c1] H H') : SeC C H' a dx st l { s with b := cb } := by
  obtain ⟨u, e1, e2⟩ := h.a1.kind
  have m : MutL H [a.c1] := mutN 107 e1 e2
  refine ⟨fr _ _ (out1 (Ne.symm h.x_ne1)) h.at_, h.set.fr fr m, fr.keep m h.chs (.inl rfl), h.a0.fr fr m (out1 h.ne), hc, h.ne, h.lim.fr fr fun p hp => ?_⟩
  obtain ⟨u2, e3, e4⟩ := h.lim.kind p hp
  exact out1 (ne_kind e3 e1 (by rw [e2, e4]; decide))
theorem SeC.lims (h : SeC C H a dx st l s) {p : Addr} {lm : Lm} (hp : a.L = some p) (hl : LiAt C H' p lm) (fr : Fr [p] H H') : SeC C H' a dx st l { s with limits := some lm } := by
  obtain ⟨u, e1, e2⟩ := h.lim.kind p (by rw [hp]; simp)
  have m : MutL H [p] := mutN 106 e1 e2
  obtain ⟨u0, e3, e4⟩ := h.a0.kind
  obtain ⟨u1, e5, e6⟩ := h.a1.kind
  refine ⟨fr _ _ (out1 (ne_kind h.at_ e1 (by rw [e2]; show (104 : Nat) ≠ 106; decide))) h.at_, h.set.fr fr m, fr.keep m h.chs (.inl rfl), h.a0.fr fr m (out1 (ne_kind e3 e1 (by rw [e2, e4]; decide))), h.a1.fr fr m (out1 (ne_kind e5 e1 (by rw [e2, e6]; decide))), h.ne, ?_⟩
  show LimO C H' a.L (some lm)
  rw [hp]
  exact hl
theorem SeC.limc (h : SeC C H a dx st l s) : (a.L = none ∧ s.limits = none) ∨ ∃ p lm, a.L = some p ∧ s.limits = some lm ∧ LiAt C H p lm := by
  have q := h.lim
  cases e : a.L with
  | none =>
    cases e2 : s.limits with
    | none => exact .inl ⟨rfl, rfl⟩
    | some z => rw [e, e2] at q; exact q.elim
  | some p =>
    cases e2 : s.limits with
    | none => rw [e, e2] at q; exact q.elim
    | some z => rw [e, e2] at q; exact .inr ⟨p, z, rfl, rfl, q⟩
end
theorem foot_x (a : SA) : a.x ∈ foot a := by simp [foot]
theorem foot_0 (a : SA) : a.c0 ∈ foot a := by simp [foot]
theorem foot_1 (a : SA) : a.c1 ∈ foot a := by simp [foot]
theorem foot_L {a : SA} {p : Addr} (h : a.L = some p) : p ∈ foot a := by simp [foot, h]
theorem _root_.L3.Fr.in1 {H H' : Hp} {p : Addr} {l : List Addr} (f : Fr [p] H H') (h : p ∈ l) : Fr l H H' := f.mono fun x hx => by
  have e : x = p := by simpa using hx
  rw [e]
  exact h
theorem isTr_true {f : Fm} {ch : Ch} (h : isTr ch = true) : ∃ v, Vbdlac.tells f ch = some v ∧ Vbdlac.trusted f ch = some v := by
  unfold isTr at h
  rw [Bool.and_eq_true, decide_eq_true_eq, decide_eq_true_eq] at h
  obtain ⟨v, hv⟩ := tells_some (f := f) h.1
  exact ⟨v, hv, by unfold Vbdlac.trusted; rw [if_pos h.2, hv]⟩
theorem isTr_false {f : Fm} {ch : Ch} (h : isTr ch = false) : Vbdlac.trusted f ch = none := by
  unfold isTr at h
  rw [← Bool.not_eq_true, Bool.and_eq_true, decide_eq_true_eq, decide_eq_true_eq] at h
  unfold Vbdlac.trusted
  by_cases e : ch.fault = 0
  · rw [if_pos e, tells_none (fun q => h ⟨q, e⟩)]
  · rw [if_neg e]
def tvUp (s : Sn) (i : Nat) : List Int := (([s.a, s.b] : List Ch).take i).flatMap fun c => (Vbdlac.trusted s.form c).toList
theorem tvUp_two (s : Sn) : tvUp s 2 = tvals s := by
  show (Vbdlac.trusted s.form s.a).toList ++ ((Vbdlac.trusted s.form s.b).toList ++ []) = _
  rw [List.append_nil]
  rfl
theorem tvUp_succ {s : Sn} {i : Nat} {c : Ch} (h : ([s.a, s.b] : List Ch)[i]? = some c) : tvUp s (i + 1) = tvUp s i ++ (Vbdlac.trusted s.form c).toList := by
  unfold tvUp
  rw [List.take_succ, h, List.flatMap_append]
  simp
theorem tvUp_len (s : Sn) (i : Nat) : (tvUp s i).length ≤ 2 := by
  have h1 : ∀ o : Option Int, o.toList.length ≤ 1 := fun o => by cases o <;> simp
  have ha := h1 (Vbdlac.trusted s.form s.a)
  have hb := h1 (Vbdlac.trusted s.form s.b)
  match i with
  | 0 => exact Nat.zero_le _
  | 1 =>
    show ((Vbdlac.trusted s.form s.a).toList ++ []).length ≤ 2
    rw [List.append_nil]
    omega
  | i + 2 =>
    show ((Vbdlac.trusted s.form s.a).toList ++ ((Vbdlac.trusted s.form s.b).toList ++ ((([] : List Ch).take i).flatMap _))).length ≤ 2
    rw [List.take_nil, List.flatMap_nil, List.append_nil, List.length_append]
    omega
theorem two_item {C : Cs} {H : Hp} {a : SA} {dx st l : Addr} {s : Sn} (h : SeC C H a dx st l s) (ok : SeOk s) {i : Nat} {x : V} (hx : ([.ref a.c0, .ref a.c1] : List V)[i]? = some x) : ∃ c ch, x = .ref c ∧ ([s.a, s.b] : List Ch)[i]? = some ch ∧ ChAt C H c s.form ch ∧ ChOk ch := by
  match i, hx with
  | 0, hx => exact ⟨a.c0, s.a, (Option.some.inj hx).symm, rfl, h.a0, ok.a⟩
  | 1, hx => exact ⟨a.c1, s.b, (Option.some.inj hx).symm, rfl, h.a1, ok.b⟩
  | i + 2, hx => simp at hx
theorem cmpS_none {s : Sn} (h : gapO s = none) : cmpS s = s := by
  unfold gapO at h
  unfold cmpS
  cases ha : Vbdlac.trusted s.form s.a with
  | none => rfl
  | some x =>
    cases hb : Vbdlac.trusted s.form s.b with
    | none => rfl
    | some y => rw [ha, hb] at h; cases h
theorem watchS_no {s : Sn} (h : s.limits = none) : watchS s = s := by
  unfold watchS
  rw [h]
theorem watchS_un {s : Sn} (h : Vbdlac.reading s = none) : watchS s = s := by
  unfold watchS
  rw [h]
  cases s.limits <;> rfl
theorem watchS_so {s : Sn} {l : Lm} {v : Int} (h1 : s.limits = some l) (h2 : Vbdlac.reading s = some v) : watchS s = { s with limits := some (Vbdlac.watched s.form.times l v) } := by
  unfold watchS
  rw [h1, h2]
theorem cmpS_some {s : Sn} {g : Int} (h : gapO s = some g) : cmpS s = if s.form.tol < g then (if min (s.unlike + 1) s.form.times = s.form.times then { s with unlike := 0, a := Vbdlac.latch s.a 3, b := Vbdlac.latch s.b 3 } else { s with unlike := min (s.unlike + 1) s.form.times }) else { s with unlike := 0 } := by
  unfold gapO at h
  unfold cmpS
  cases ha : Vbdlac.trusted s.form s.a with
  | none => rw [ha] at h; cases h
  | some x =>
    cases hb : Vbdlac.trusted s.form s.b with
    | none => rw [ha, hb] at h; cases h
    | some y =>
      rw [ha, hb] at h
      have e : Vbdlac.far x y = g := Option.some.inj h
      subst e
      rfl
section
variable {P : Program} {w : World} {K : PySem.W.Frag} {mg : Str → Option Value} {base : Heap} {C : Cs}
theorem ok_Sensor_init {f : Addr} {fd : FuncData} (F : Fun K "__init__" "Sensor.__init__" s_Sensor_init f fd) (T : Txt K mg C)  (M_Channel : MakeD P w K mg base "Channel" C.ch 2 ["self", "settings"] (sp_Channel_init C)): FnOk P w K mg base CX0 4 f fd ["self", "settings"] (sp_Sensor_init C) := by
  refine F.ok sc_Sensor_init (fun _ _ _ _ h => h.1) (fun cdv A outer s H vs Q E hr h => ?_)
  obtain ⟨-, h⟩ := h
  obtain ⟨x, dx, st, f, rfl, hx, hs, k⟩ := h
  refine ⟨_, (pss_cons (x_put (pv 0) (pv 1)) (pss_cons (x_put (pv 0) (x_lst (pa_cons (x_make M_Channel (hr.mono (by decide)) rfl (pa_cons (pv 1) pa_nil)) (pa_cons (x_make M_Channel (hr.mono (by decide)) rfl (pa_cons (pv 1) pa_nil)) pa_nil)))) (pss_cons (x_put (pv 0) pe_int) (pss_one (x_put (pv 0) pe_non))))), ?_⟩
  refine ⟨_, rfl, _, rfl, _, _, _, _, ⟨_, rfl, hx, T.cl_se, T.n_se_settings, (by show (0 : Nat) < 1000; decide), rfl⟩, fun H1 w1 => ?_⟩
  have hs1 := hs.fr w1.fr (mutN 100 hx rfl)
  refine ⟨_, rfl, fun c0 d0 H2 m2 => ⟨rfl, c0, d0, st, f, rfl, m2.at_, hs1.same m2.same, fun H3 ⟨g0, o0, wn0, hc0, hw0⟩ f3 => ⟨rfl, _, rfl, fun c1 d1 H4 m4 => ?_⟩⟩⟩
  have s3 : Same H1 H3 := Fr.fresh m2.same f3 m2.fresh
  refine ⟨rfl, c1, d1, st, f, rfl, m4.at_, (hs1.same s3).same m4.same, fun H5 ⟨g1, o1, wn1, hc1, hw1⟩ f5 => ⟨rfl, small_len (by simp), fun l H6 N6 => ?_⟩⟩
  have s5 : Same H3 H5 := Fr.fresh m4.same f5 m4.fresh
  have n01 : c0 ≠ c1 := ne_of_none hc0.at_ m4.fresh
  have h6 : H6 x = _ := N6.same _ _ (s5 _ _ (s3 _ _ w1.at_))
  refine ⟨_, rfl, _, _, _, _, ⟨_, rfl, h6, T.cl_se, T.n_se_channels, (by show (1 : Nat) < 1000; decide), rfl⟩, fun H7 w7 => ?_⟩
  refine ⟨_, rfl, _, _, _, _, ⟨_, rfl, w7.at_, T.cl_se, T.n_se_unlike, (by show (2 : Nat) < 1000; decide), rfl⟩, fun H8 w8 => ?_⟩
  refine ⟨_, rfl, _, _, _, _, ⟨_, rfl, w8.at_, T.cl_se, T.n_se_limits, (by show (3 : Nat) < 1000; decide), rfl⟩, fun H9 w9 => ?_⟩
  have fr : Fr [x] H6 H9 := (w7.fr.trans w8.fr).trans w9.fr
  have m6 : MutL H6 [x] := mutN 101 h6 rfl
  have e0 : H c0 = none := w1.free m2.fresh
  have e1 : H c1 = none := w1.free (s3.free m4.fresh)
  have ew0 : H wn0 = none := w1.free (m2.same.free hw0)
  have ew1 : H wn1 = none := w1.free (s3.free (m4.same.free hw1))
  have el : H l = none := w1.free (s3.free (s5.free N6.fresh))
  have x0 : c0 ≠ x := Ne.symm (ne_of_none hx e0)
  have x1 : c1 ≠ x := Ne.symm (ne_of_none hx e1)
  have d0' := ((hc0.same s5).same N6.same).fr fr m6 (out1 x0)
  have d1' := (hc1.same N6.same).fr fr m6 (out1 x1)
  exact k c0 c1 wn0 wn1 H9 e0 e1 ew0 ew1 n01 ⟨l, el, w9.at_, fr.keep m6 N6.at_ (.inl rfl)⟩ ⟨_, _, _, d0'⟩ ⟨_, _, _, d1'⟩ ((w1.fr.trans (Fr.of ((s3.trans s5).trans N6.same))).trans fr)
theorem ok_Sensor_set_limits {f : Addr} {fd : FuncData} (F : Fun K "set_limits" "Sensor.set_limits" s_Sensor_set_limits f fd) (T : Txt K mg C)  (M_Limits : MakeD P w K mg base "Limits" C.li 1 ["self", "low", "high", "back"] (sp_Limits_init C)): FnOk P w K mg base CX0 3 f fd ["self", "low", "high", "back"] (sp_Sensor_set_limits C) := by
  refine F.ok sc_Sensor_set_limits (fun _ _ _ _ h => h.1) (fun cdv A outer s H vs Q E hr h => ?_)
  obtain ⟨-, h⟩ := h
  obtain ⟨a, s, x, y, z, rfl, ⟨dx, st, l, hS⟩, k⟩ := h
  refine ⟨_, (pss_one (x_put (pv 0) (x_make M_Limits (hr.mono (by decide)) rfl (pa_cons (pv 1) (pa_cons (pv 2) (pa_cons (pv 3) pa_nil)))))), ?_⟩
  refine ⟨_, rfl, _, rfl, _, rfl, fun p dp H2 m2 => ⟨rfl, p, dp, x, y, z, rfl, m2.at_, fun H3 h3 f3 => ?_⟩⟩
  have s3 : Same H H3 := Fr.fresh m2.same f3 m2.fresh
  have hS3 := hS.same s3
  refine ⟨rfl, _, rfl, _, _, _, _, sep_limits T hS3.at_ (.ref p), fun H4 w4 => k p H4 m2.fresh ⟨dx, st, l, ?_⟩ ((Fr.of s3).trans w4.fr)⟩
  have np : p ≠ a.x := Ne.symm (ne_of_none hS.at_ m2.fresh)
  exact hS3.store (u' := s.unlike) (L' := some p) (lm' := some _) w4.at_ w4.fr (LiAt.fr h3 w4.fr (out1 np))
theorem ok_Sensor_alarm_now {f : Addr} {fd : FuncData} (F : Fun K "alarm_now" "Sensor.alarm_now" s_Sensor_alarm_now f fd) (T : Txt K mg C)  : FnOk P w K mg base CX0 1 f fd ["self"] (sp_Sensor_alarm_now C) := by
  refine F.ok sc_Sensor_alarm_now (fun _ _ _ _ h => h.1) (fun cdv A outer s H vs Q E hr h => ?_)
  obtain ⟨-, h⟩ := h
  obtain ⟨a, s, rfl, ⟨dx, st, l, hS⟩, k⟩ := h
  refine ⟨_, (pss_cons (ps_if (pt_cmpR op_isN (x_fld (pv 0)) pe_non (nomark _)) (pss_one (ps_ret (x_gc rfl T.c_NO_ALARM))) pss_nil) (pss_one (ps_ret (x_fld (x_fld (pv 0)))))), ?_⟩
  unfold Vbdlac.alarmOf at k
  have hx := hS.at_
  rcases hS.limc with ⟨e1, e2⟩ | ⟨p, lm, e1, e2, dl, hl⟩
  · rw [e1] at hx
    rw [e2] at k
    exact ⟨_, rfl, _, sef_limits T hx, rfl, _, rfl, iteT k⟩
  · rw [e1] at hx
    rw [e2] at k
    exact ⟨_, rfl, _, sef_limits T hx, rfl, _, rfl, iteF ⟨_, rfl, _, sef_limits T hx, _, lif_alarm T hl, k⟩⟩
theorem ok_Sensor_trusted_values {f : Addr} {fd : FuncData} (F : Fun K "trusted_values" "Sensor.trusted_values" s_Sensor_trusted_values f fd) (T : Txt K mg C) (D_Channel_is_trusted : MethD P w K mg base C.ch "is_trusted" 2 ["self"] (sp_Channel_is_trusted C)) (D_Channel_told_value : MethD P w K mg base C.ch "told_value" 8 ["self"] (sp_Channel_told_value C)) : FnOk P w K mg base CX0 9 f fd ["self"] (sp_Sensor_trusted_values C) := by
  refine F.ok sc_Sensor_trusted_values (fun _ _ _ _ h => h.1) (fun cdv A outer s H vs Q E hr h => ?_)
  obtain ⟨-, h⟩ := h
  obtain ⟨a, s, rfl, ⟨dx, st, l, hS⟩, ok, k⟩ := h
  refine ⟨_, (pss_one (ps_ret (pe_lc rfl sc_Sensor_trusted_values.nd (pi_list (x_fld (pv 0))) (blkOk_by (N := ["self", "channel"]) (sc := defScope s_Sensor_trusted_values) (own := [("channel", 1)]) (by decide +kernel)) (fun _ _ _ _ _ => (pg_name (i := 1) sc_Sensor_trusted_values.nd rfl (Or.inl rfl))) (fun _ _ _ _ _ => (pts_one (pt_val (x_meth0 (pv 1) D_Channel_is_trusted (hr.mono (by decide)))))) (fun _ _ _ _ _ => (x_meth0 (pv 1) D_Channel_told_value (hr.mono (by decide))))))), ?_⟩
  refine ⟨_, rfl, _, sef_channels T hS.at_, l, rfl, ⟨_, SqL.of hS.chs⟩, fun D hD => lc_list (K := K) (a := l) (xs := [.ref a.c0, .ref a.c1]) (fun i H' => Same H H' ∧ H' D = some (.lst ((tvUp s i).map V.int))) ⟨same_upd (Same.refl H) hD, upd_same⟩ (fun i H' _ ⟨s', _⟩ => SqL.of (s' _ _ hS.chs)) ?_ ?_⟩
  · rintro i x H' hx ⟨s', hD'⟩
    obtain ⟨c, ch, rfl, hi, hch, okc⟩ := two_item hS ok hx
    have hch' := hch.same s'
    obtain ⟨dc, stc, gc, oc, wc, hc⟩ := hch'
    refine ⟨rfl, _, rfl, ch_no _ hc.at_, rfl, c, s.form, ch, rfl, ⟨dc, stc, gc, oc, wc, hc⟩, _, rfl, ifC (fun h1 => ?_) (fun h1 => ⟨s', ?_⟩)⟩
    · obtain ⟨v, hv1, hv2⟩ := isTr_true (f := s.form) h1
      refine ⟨_, rfl, ch_no _ hc.at_, rfl, c, s.form, ch, v, rfl, ⟨dc, stc, gc, oc, wc, hc⟩, ok.f, okc, hv1, fun H4 s4 => ⟨_, s4 _ _ hD', ?_, same_upd (s'.trans s4) hD, ?_⟩⟩
      · rw [List.length_map]
        exact Nat.lt_of_le_of_lt (tvUp_len s i) (by show 2 < sizeLine; rw [sizeLine_eq]; decide)
      · rw [upd_same, tvUp_succ hi, hv2, List.map_append]
        rfl
    · rw [hD', tvUp_succ hi, isTr_false h1]
      show some (HO.lst ((tvUp s i).map V.int)) = some (HO.lst ((tvUp s i ++ []).map V.int))
      rw [List.append_nil]
  · rintro H' ⟨s', hD'⟩
    refine k D H' s' ?_
    rw [hD']
    show some (HO.lst ((tvUp s 2).map V.int)) = _
    rw [tvUp_two]
theorem ok_Sensor_reading_now {f : Addr} {fd : FuncData} (F : Fun K "reading_now" "Sensor.reading_now" s_Sensor_reading_now f fd) (T : Txt K mg C) (D_Sensor_trusted_values : MethD P w K mg base C.se "trusted_values" 9 ["self"] (sp_Sensor_trusted_values C)) : FnOk P w K mg base CX0 10 f fd ["self"] (sp_Sensor_reading_now C) := by
  refine F.ok sc_Sensor_reading_now (fun _ _ _ _ h => h.1) (fun cdv A outer s H vs Q E hr h => ?_)
  obtain ⟨-, h⟩ := h
  obtain ⟨a, s, rfl, ⟨dx, st, l, hS⟩, ok, k⟩ := h
  refine ⟨_, (pss_cons (ps_set (i := 1) sc_Sensor_reading_now.nd rfl (Or.inl rfl) (x_meth0 (pv 0) D_Sensor_trusted_values (hr.mono (by decide)))) (pss_cons (ps_if (pt_cmpR x_opeq (pe_callB x_callen (by rfl) T.b_len boot_len' (pa_cons (pv 1) pa_nil)) pe_int (nomark _)) (pss_one (ps_ret pe_non)) pss_nil) (pss_cons (ps_if (pt_cmpR x_opeq (pe_callB x_callen (by rfl) T.b_len boot_len' (pa_cons (pv 1) pa_nil)) pe_int (nomark _)) (pss_one (ps_ret (x_ixl (pv 1) pe_int))) pss_nil) (pss_cons (ps_if (pt_cmpR x_opeq (x_fld (x_fld (pv 0))) (x_gc rfl T.c_SIDE_LESSER) (nomark _)) (pss_one (ps_ret (pe_callB (cr_min rfl) (by rfl) T.b_min boot_min' (pa_cons (pv 1) pa_nil)))) pss_nil) (pss_cons (ps_if (pt_cmpR x_opeq (x_fld (x_fld (pv 0))) (x_gc rfl T.c_SIDE_GREATER) (nomark _)) (pss_one (ps_ret (pe_callB (cr_max rfl) (by rfl) T.b_max boot_max' (pa_cons (pv 1) pa_nil)))) pss_nil) (pss_one (ps_ret (pe_op x_opdiv (pe_callB (cr_sum rfl) (by rfl) T.b_sum boot_sum' (pa_cons (pv 1) pa_nil)) pe_int)))))))), ?_⟩
  refine ⟨_, rfl, se_no _ hS.at_, rfl, a, s, rfl, ⟨dx, st, l, hS⟩, ok, fun p H2 s2 hp => ?_⟩
  have k := k H2 s2
  unfold Vbdlac.reading at k
  unfold tvals at hp
  cases ha : Vbdlac.trusted s.form s.a with
  | none =>
    cases hb : Vbdlac.trusted s.form s.b with
    | none =>
      rw [ha, hb] at hp k
      exact ⟨_, rfl, _, LenF.l hp, _, _, rfl, rfl, _, rfl, iteT k⟩
    | some y =>
      rw [ha, hb] at hp k
      exact ⟨_, rfl, _, LenF.l hp, _, _, rfl, rfl, _, rfl, iteF ⟨_, rfl, _, LenF.l hp, _, _, rfl, rfl, _, rfl, iteT ⟨_, rfl, _, IxL.k0 hp, k⟩⟩⟩
  | some x =>
    cases hb : Vbdlac.trusted s.form s.b with
    | none =>
      rw [ha, hb] at hp k
      exact ⟨_, rfl, _, LenF.l hp, _, _, rfl, rfl, _, rfl, iteF ⟨_, rfl, _, LenF.l hp, _, _, rfl, rfl, _, rfl, iteT ⟨_, rfl, _, IxL.k0 hp, k⟩⟩⟩
    | some y =>
      rw [ha, hb] at hp k
      have hp : H2 p = some (.lst (([x, y] : List Int).map V.int)) := hp
      have hS2 := hS.same s2
      obtain ⟨ds, pl, hs, _⟩ := hS2.set
      have k : Q (.int (Vbdlac.joined s.form.side x y)) H2 := k
      unfold Vbdlac.joined at k
      refine ⟨_, rfl, _, LenF.l hp, _, _, rfl, rfl, _, rfl, iteF ⟨_, rfl, _, LenF.l hp, _, _, rfl, rfl, _, rfl, iteF ⟨_, rfl, _, sef_settings T hS2.at_, _, stf_side T hs, _, _, rfl, rfl, _, rfl, ifB (fun h3 => ?_) (fun h3 => ⟨_, rfl, _, sef_settings T hS2.at_, _, stf_side T hs, _, _, rfl, rfl, _, rfl, ifB (fun h4 => ?_) (fun h4 => ?_)⟩)⟩⟩⟩
      · rw [if_pos (by omega)] at k
        refine ⟨_, rfl, p, [x, y], rfl, SqL.of hp, Nat.succ_pos _, fun m hm hle => Qi k ?_⟩
        have e1 := hle x (by simp)
        have e2 := hle y (by simp)
        have e3 : m = x ∨ m = y := by simpa using hm
        omega
      · rw [if_neg (by omega), if_pos (by omega)] at k
        refine ⟨_, rfl, p, [x, y], rfl, SqL.of hp, Nat.succ_pos _, fun m hm hle => Qi k ?_⟩
        have e1 := hle x (by simp)
        have e2 := hle y (by simp)
        have e3 : m = x ∨ m = y := by simpa using hm
        omega
      · rw [if_neg (by omega), if_neg (by omega)] at k
        refine ⟨_, rfl, p, [x, y], rfl, SqL.of hp, _, _, rfl, rfl, ⟨by decide, sm2⟩, Qi k ?_⟩
        show (x + y) / 2 = ([x, y] : List Int).sum / 2
        rw [List.sum_cons, List.sum_cons, List.sum_nil, Int.add_zero]
theorem ok_Sensor_gap_now {f : Addr} {fd : FuncData} (F : Fun K "gap_now" "Sensor.gap_now" s_Sensor_gap_now f fd) (T : Txt K mg C) (D_Sensor_trusted_values : MethD P w K mg base C.se "trusted_values" 9 ["self"] (sp_Sensor_trusted_values C)) : FnOk P w K mg base CX0 10 f fd ["self"] (sp_Sensor_gap_now C) := by
  refine F.ok sc_Sensor_gap_now (fun _ _ _ _ h => h.1) (fun cdv A outer s H vs Q E hr h => ?_)
  obtain ⟨-, h⟩ := h
  obtain ⟨a, s, rfl, ⟨dx, st, l, hS⟩, ok, k⟩ := h
  refine ⟨_, (pss_cons (ps_set (i := 1) sc_Sensor_gap_now.nd rfl (Or.inl rfl) (x_meth0 (pv 0) D_Sensor_trusted_values (hr.mono (by decide)))) (pss_cons (ps_if (pt_cmpR op_lt (pe_callB x_callen (by rfl) T.b_len boot_len' (pa_cons (pv 1) pa_nil)) pe_int (nomark _)) (pss_one (ps_ret pe_non)) pss_nil) (pss_one (ps_ret (pe_callB call_abs (by rfl) T.b_abs boot_abs' (pa_cons (pe_op op_sub (x_ixl (pv 1) pe_int) (x_ixl (pv 1) pe_int)) pa_nil)))))), ?_⟩
  refine ⟨_, rfl, se_no _ hS.at_, rfl, a, s, rfl, ⟨dx, st, l, hS⟩, ok, fun p H2 s2 hp => ?_⟩
  have k := k H2 s2
  unfold gapO at k
  unfold tvals at hp
  cases ha : Vbdlac.trusted s.form s.a with
  | none =>
    cases hb : Vbdlac.trusted s.form s.b with
    | none =>
      rw [ha, hb] at hp k
      exact ⟨_, rfl, _, LenF.l hp, _, _, rfl, rfl, _, rfl, iteT k⟩
    | some y =>
      rw [ha, hb] at hp k
      exact ⟨_, rfl, _, LenF.l hp, _, _, rfl, rfl, _, rfl, iteT k⟩
  | some x =>
    cases hb : Vbdlac.trusted s.form s.b with
    | none =>
      rw [ha, hb] at hp k
      exact ⟨_, rfl, _, LenF.l hp, _, _, rfl, rfl, _, rfl, iteT k⟩
    | some y =>
      rw [ha, hb] at hp k
      have hp : H2 p = some (.lst (([x, y] : List Int).map V.int)) := hp
      refine ⟨_, rfl, _, LenF.l hp, _, _, rfl, rfl, _, rfl, iteF ⟨_, rfl, _, IxL.k0 hp, _, rfl, _, IxL.k1 hp, _, _, rfl, rfl, _, rfl, Qi k ?_⟩⟩
      rw [abs_cast]
      rfl
theorem ok_Sensor_latch_both {f : Addr} {fd : FuncData} (F : Fun K "latch_both" "Sensor.latch_both" s_Sensor_latch_both f fd) (T : Txt K mg C) (D_Channel_latch : MethD P w K mg base C.ch "latch" 1 ["self", "fault"] (sp_Channel_latch C)) : FnOk P w K mg base CX0 2 f fd ["self", "fault"] (sp_Sensor_latch_both C) := by
  refine F.ok sc_Sensor_latch_both (fun _ _ _ _ h => h.1) (fun cdv A outer s H vs Q E hr h => ?_)
  obtain ⟨-, h⟩ := h
  obtain ⟨a, s, k0, rfl, ⟨dx, st, l, hS⟩, k⟩ := h
  refine ⟨_, (pss_one (ps_for PassesOwn.never rfl (pi_list (x_fld (pv 0))) (pg_name (i := 2) sc_Sensor_latch_both.nd rfl (Or.inl rfl)) (pss_one (ps_expr (x_meth (pv 2) D_Channel_latch (hr.mono (by decide)) (pa_cons (pv 1) pa_nil)))))), ?_⟩
  refine ⟨_, rfl, _, sef_channels T hS.at_, l, rfl, ⟨_, SqL.of hS.chs⟩, for_list (K := K) (a := l) (xs := [.ref a.c0, .ref a.c1]) (fun i σ H' => (∃ v, σ = [some (.ref a.x), some (.int (k0 : Int)), v]) ∧ SeC C H' a dx st l { s with a := if i = 0 then s.a else Vbdlac.latch s.a k0, b := if i ≤ 1 then s.b else Vbdlac.latch s.b k0 } ∧ Fr (foot a) H H') ⟨⟨none, rfl⟩, hS, Fr.refl _ _⟩ (fun i σ H' _ ⟨_, h1, _⟩ => SqL.of h1.chs) ?_ ?_⟩
  · rintro i x σ H' hx ⟨⟨v, rfl⟩, h1, f1⟩
    match i, hx, h1 with
    | 0, hx, h1 =>
      cases hx
      obtain ⟨dc, sc, gc, oc, wc, hc⟩ := h1.a0
      exact ⟨_, rfl, ch_no _ hc.at_, _, rfl, rfl, a.c0, k0, s.form, s.a, rfl, h1.a0, fun H2 h2 f2 => ⟨⟨_, rfl⟩, h1.chA h2 f2, f1.trans (f2.in1 (foot_0 a))⟩⟩
    | 1, hx, h1 =>
      cases hx
      obtain ⟨dc, sc, gc, oc, wc, hc⟩ := h1.a1
      exact ⟨_, rfl, ch_no _ hc.at_, _, rfl, rfl, a.c1, k0, s.form, s.b, rfl, h1.a1, fun H2 h2 f2 => ⟨⟨_, rfl⟩, h1.chB h2 f2, f1.trans (f2.in1 (foot_1 a))⟩⟩
    | i + 2, hx, _ => simp at hx
  · rintro σ H' ⟨⟨v, rfl⟩, h1, f1⟩
    exact k H' ⟨dx, st, l, h1⟩ f1
theorem ok_Sensor_judge_channels {f : Addr} {fd : FuncData} (F : Fun K "judge_channels" "Sensor.judge_channels" s_Sensor_judge_channels f fd) (T : Txt K mg C) (D_Channel_judge : MethD P w K mg base C.ch "judge" 10 ["self", "known"] (sp_Channel_judge C)) : FnOk P w K mg base CX0 11 f fd ["self", "known"] (sp_Sensor_judge_channels C) := by
  refine F.ok sc_Sensor_judge_channels (fun _ _ _ _ h => h.1) (fun cdv A outer s H vs Q E hr h => ?_)
  obtain ⟨-, h⟩ := h
  obtain ⟨a, s, v0, rfl, ⟨dx, st, l, hS⟩, ok, k⟩ := h
  refine ⟨_, (pss_cons (ps_for PassesOwn.never rfl (pi_list (x_fld (pv 0))) (pg_name (i := 2) sc_Sensor_judge_channels.nd rfl (Or.inl rfl)) (pss_one (ps_expr (x_meth (pv 2) D_Channel_judge (hr.mono (by decide)) (pa_cons (pv 1) pa_nil))))) (pss_one (x_put (pv 0) pe_int))), ?_⟩
  refine ⟨_, rfl, _, sef_channels T hS.at_, l, rfl, ⟨_, SqL.of hS.chs⟩, for_list (K := K) (a := l) (xs := [.ref a.c0, .ref a.c1]) (fun i σ H' => (∃ v, σ = [some (.ref a.x), some (.int v0), v]) ∧ SeC C H' a dx st l { s with a := if i = 0 then s.a else Vbdlac.judged s.form s.a v0, b := if i ≤ 1 then s.b else Vbdlac.judged s.form s.b v0 } ∧ Fr (foot a) H H') ⟨⟨none, rfl⟩, hS, Fr.refl _ _⟩ (fun i σ H' _ ⟨_, h1, _⟩ => SqL.of h1.chs) ?_ ?_⟩
  · rintro i x σ H' hx ⟨⟨v, rfl⟩, h1, f1⟩
    match i, hx, h1 with
    | 0, hx, h1 =>
      cases hx
      obtain ⟨dc, sc, gc, oc, wc, hc⟩ := h1.a0
      exact ⟨_, rfl, ch_no _ hc.at_, _, rfl, rfl, a.c0, v0, s.form, s.a, rfl, h1.a0, ok.f, ok.a, fun H2 h2 f2 => ⟨⟨_, rfl⟩, h1.chA h2 f2, f1.trans (f2.in1 (foot_0 a))⟩⟩
    | 1, hx, h1 =>
      cases hx
      obtain ⟨dc, sc, gc, oc, wc, hc⟩ := h1.a1
      exact ⟨_, rfl, ch_no _ hc.at_, _, rfl, rfl, a.c1, v0, s.form, s.b, rfl, h1.a1, ok.f, ok.b, fun H2 h2 f2 => ⟨⟨_, rfl⟩, h1.chB h2 f2, f1.trans (f2.in1 (foot_1 a))⟩⟩
    | i + 2, hx, _ => simp at hx
  · rintro σ H' ⟨⟨v, rfl⟩, h1, f1⟩
    exact ⟨_, rfl, _, _, _, _, sep_unlike T h1.at_ 0, fun H2 w2 => k H2 ⟨dx, st, l, h1.unl (u' := 0) w2.at_ w2.fr⟩ (f1.trans (w2.fr.in1 (foot_x a)))⟩
theorem ok_Sensor_forget_counts {f : Addr} {fd : FuncData} (F : Fun K "forget_counts" "Sensor.forget_counts" s_Sensor_forget_counts f fd) (T : Txt K mg C) (D_Channel_forget : MethD P w K mg base C.ch "forget" 1 ["self"] (sp_Channel_forget C)) : FnOk P w K mg base CX0 2 f fd ["self"] (sp_Sensor_forget_counts C) := by
  refine F.ok sc_Sensor_forget_counts (fun _ _ _ _ h => h.1) (fun cdv A outer s H vs Q E hr h => ?_)
  obtain ⟨-, h⟩ := h
  obtain ⟨a, s, rfl, ⟨dx, st, l, hS⟩, k⟩ := h
  refine ⟨_, (pss_cons (ps_for PassesOwn.never rfl (pi_list (x_fld (pv 0))) (pg_name (i := 1) sc_Sensor_forget_counts.nd rfl (Or.inl rfl)) (pss_one (ps_expr (x_meth0 (pv 1) D_Channel_forget (hr.mono (by decide)))))) (pss_one (x_put (pv 0) pe_int))), ?_⟩
  refine ⟨_, rfl, _, sef_channels T hS.at_, l, rfl, ⟨_, SqL.of hS.chs⟩, for_list (K := K) (a := l) (xs := [.ref a.c0, .ref a.c1]) (fun i σ H' => (∃ v, σ = [some (.ref a.x), v]) ∧ SeC C H' a dx st l { s with a := if i = 0 then s.a else clrCh s.a, b := if i ≤ 1 then s.b else clrCh s.b } ∧ Fr (foot a) H H') ⟨⟨none, rfl⟩, hS, Fr.refl _ _⟩ (fun i σ H' _ ⟨_, h1, _⟩ => SqL.of h1.chs) ?_ ?_⟩
  · rintro i x σ H' hx ⟨⟨v, rfl⟩, h1, f1⟩
    match i, hx, h1 with
    | 0, hx, h1 =>
      cases hx
      obtain ⟨dc, sc, gc, oc, wc, hc⟩ := h1.a0
      exact ⟨_, rfl, ch_no _ hc.at_, rfl, a.c0, s.form, s.a, rfl, h1.a0, fun H2 h2 f2 => ⟨⟨_, rfl⟩, h1.chA h2 f2, f1.trans (f2.in1 (foot_0 a))⟩⟩
    | 1, hx, h1 =>
      cases hx
      obtain ⟨dc, sc, gc, oc, wc, hc⟩ := h1.a1
      exact ⟨_, rfl, ch_no _ hc.at_, rfl, a.c1, s.form, s.b, rfl, h1.a1, fun H2 h2 f2 => ⟨⟨_, rfl⟩, h1.chB h2 f2, f1.trans (f2.in1 (foot_1 a))⟩⟩
    | i + 2, hx, _ => simp at hx
  · rintro σ H' ⟨⟨v, rfl⟩, h1, f1⟩
    exact ⟨_, rfl, _, _, _, _, sep_unlike T h1.at_ 0, fun H2 w2 => k H2 ⟨dx, st, l, h1.unl (u' := 0) w2.at_ w2.fr⟩ (f1.trans (w2.fr.in1 (foot_x a)))⟩
theorem ok_Sensor_compare_channels {f : Addr} {fd : FuncData} (F : Fun K "compare_channels" "Sensor.compare_channels" s_Sensor_compare_channels f fd) (T : Txt K mg C) (D_Sensor_gap_now : MethD P w K mg base C.se "gap_now" 10 ["self"] (sp_Sensor_gap_now C)) (D_Sensor_latch_both : MethD P w K mg base C.se "latch_both" 2 ["self", "fault"] (sp_Sensor_latch_both C)) : FnOk P w K mg base CX0 11 f fd ["self"] (sp_Sensor_compare_channels C) := by
  refine F.ok sc_Sensor_compare_channels (fun _ _ _ _ h => h.1) (fun cdv A outer s H vs Q E hr h => ?_)
  obtain ⟨-, h⟩ := h
  obtain ⟨a, s, rfl, ⟨dx, st, l, hS⟩, ok, k⟩ := h
  refine ⟨_, (pss_cons (ps_set (i := 1) sc_Sensor_compare_channels.nd rfl (Or.inl rfl) (x_meth0 (pv 0) D_Sensor_gap_now (hr.mono (by decide)))) (pss_cons (ps_if (pt_cmpR op_isN (pv 1) pe_non (nomark _)) (pss_one ps_retN) pss_nil) (pss_cons (ps_if (pt_cmpR op_le (pv 1) (x_fld (x_fld (pv 0))) (nomark _)) (pss_cons (x_put (pv 0) pe_int) (pss_one ps_retN)) pss_nil) (pss_cons (x_put (pv 0) (pe_callB (call_min2 rfl) (by rfl) T.b_min boot_min' (pa_cons (pe_op op_add (x_fld (pv 0)) pe_int) (pa_cons (x_fld (x_fld (pv 0))) pa_nil)))) (pss_one (ps_if (pt_cmpR x_opeq (x_fld (pv 0)) (x_fld (x_fld (pv 0))) (nomark _)) (pss_cons (ps_expr (x_meth (pv 0) D_Sensor_latch_both (hr.mono (by decide)) (pa_cons (x_gc rfl T.c_FAULT_UNLIKE) pa_nil))) (pss_one (x_put (pv 0) pe_int))) pss_nil)))))), ?_⟩
  refine ⟨_, rfl, se_no _ hS.at_, rfl, a, s, rfl, ⟨dx, st, l, hS⟩, ok, fun H2 s2 => ?_⟩
  have hS2 := hS.same s2
  have f2 : Fr (foot a) H H2 := Fr.of s2
  cases hg : gapO s with
  | none =>
    rw [cmpS_none hg] at k
    exact ⟨_, rfl, rfl, _, rfl, iteT (k H2 ⟨dx, st, l, hS2⟩ f2)⟩
  | some g =>
    rw [cmpS_some hg] at k
    obtain ⟨ds, pl, hs, _⟩ := hS2.set
    refine ⟨_, rfl, rfl, _, rfl, iteF ⟨_, rfl, _, rfl, _, sef_settings T hS2.at_, _, stf_tolerance T hs, _, _, rfl, rfl, _, rfl, ifB (fun h1 => ?_) (fun h1 => ?_)⟩⟩
    · have h1 : g ≤ s.form.tol := h1
      rw [if_neg (by omega)] at k
      exact ⟨_, rfl, _, _, _, _, sep_unlike T hS2.at_ 0, fun H3 w3 => k H3 ⟨dx, st, l, hS2.unl (u' := 0) w3.at_ w3.fr⟩ (f2.trans (w3.fr.in1 (foot_x a)))⟩
    · have h1 : ¬ g ≤ s.form.tol := h1
      rw [if_pos (by omega)] at k
      refine ⟨_, rfl, _, sef_unlike T hS2.at_, _, _, rfl, rfl, _, rfl, _, sef_settings T hS2.at_, _, stf_times T hs, _, _, rfl, _, rfl, _, _, _, _, sep_unlike T hS2.at_ (if (s.form.times : Int) < (s.unlike : Int) + 1 then (s.form.times : Int) else (s.unlike : Int) + 1), fun H3 w3 => ?_⟩
      rw [min_cast] at w3
      have hS3 := hS2.unl w3.at_ w3.fr
      have f3 : Fr (foot a) H H3 := f2.trans (w3.fr.in1 (foot_x a))
      obtain ⟨ds3, pl3, hs3, _⟩ := hS3.set
      refine ⟨_, rfl, _, sef_unlike T hS3.at_, _, rfl, _, sef_settings T hS3.at_, _, stf_times T hs3, _, _, rfl, rfl, _, rfl, ifB (fun h2 => ?_) (fun h2 => ?_)⟩
      · have h2 : ((min (s.unlike + 1) s.form.times : Nat) : Int) = (s.form.times : Int) := h2
        rw [if_pos (by omega)] at k
        exact ⟨_, rfl, se_no _ hS3.at_, rfl, a, _, 3, rfl, ⟨dx, st, l, hS3⟩, fun H4 ⟨dx4, st4, l4, hS4⟩ f4 => ⟨_, rfl, _, _, _, _, sep_unlike T hS4.at_ 0, fun H5 w5 => k H5 ⟨dx4, st4, l4, hS4.unl (u' := 0) w5.at_ w5.fr⟩ ((f3.trans f4).trans (w5.fr.in1 (foot_x a)))⟩⟩
      · have h2 : ¬ ((min (s.unlike + 1) s.form.times : Nat) : Int) = (s.form.times : Int) := h2
        rw [if_neg (by omega)] at k
        exact k H3 ⟨dx, st, l, hS3⟩ f3
theorem ok_Sensor_watch_limits {f : Addr} {fd : FuncData} (F : Fun K "watch_limits" "Sensor.watch_limits" s_Sensor_watch_limits f fd) (T : Txt K mg C) (D_Sensor_reading_now : MethD P w K mg base C.se "reading_now" 10 ["self"] (sp_Sensor_reading_now C)) (D_Limits_watch : MethD P w K mg base C.li "watch" 2 ["self", "reading", "times"] (sp_Limits_watch C)) : FnOk P w K mg base CX0 11 f fd ["self"] (sp_Sensor_watch_limits C) := by
  refine F.ok sc_Sensor_watch_limits (fun _ _ _ _ h => h.1) (fun cdv A outer s H vs Q E hr h => ?_)
  obtain ⟨-, h⟩ := h
  obtain ⟨a, s, rfl, ⟨dx, st, l, hS⟩, ok, k⟩ := h
  refine ⟨_, (pss_cons (ps_if (pt_cmpR op_isN (x_fld (pv 0)) pe_non (nomark _)) (pss_one ps_retN) pss_nil) (pss_cons (ps_set (i := 1) sc_Sensor_watch_limits.nd rfl (Or.inl rfl) (x_meth0 (pv 0) D_Sensor_reading_now (hr.mono (by decide)))) (pss_one (ps_if (pt_cmpR op_notN (pv 1) pe_non (nomark _)) (pss_one (ps_expr (x_meth (x_fld (pv 0)) D_Limits_watch (hr.mono (by decide)) (pa_cons (pv 1) (pa_cons (x_fld (x_fld (pv 0))) pa_nil))))) pss_nil)))), ?_⟩
  have hx := hS.at_
  rcases hS.limc with ⟨e1, e2⟩ | ⟨p, lm, e1, e2, dl, hl⟩
  · rw [e1] at hx
    rw [watchS_no e2] at k
    exact ⟨_, rfl, _, sef_limits T hx, rfl, _, rfl, iteT (k H ⟨dx, st, l, hS⟩ (Fr.refl _ _))⟩
  · rw [e1] at hx
    refine ⟨_, rfl, _, sef_limits T hx, rfl, _, rfl, iteF ⟨_, rfl, se_no _ hx, rfl, a, s, rfl, ⟨dx, st, l, hS⟩, ok, fun H2 s2 => ?_⟩⟩
    have hS2 := hS.same s2
    have hx2 := s2 _ _ hx
    have hl2 := s2 _ _ hl
    obtain ⟨ds, pl, hs, _⟩ := hS2.set
    cases hr : Vbdlac.reading s with
    | none =>
      rw [watchS_un hr] at k
      exact ⟨_, rfl, rfl, _, rfl, iteF (k H2 ⟨dx, st, l, hS2⟩ (Fr.of s2))⟩
    | some v =>
      rw [watchS_so e2 hr] at k
      exact ⟨_, rfl, rfl, _, rfl, iteT ⟨_, rfl, _, sef_limits T hx2, li_no _ hl2, _, rfl, _, rfl, _, sef_settings T hx2, _, stf_times T hs, rfl, p, v, s.form.times, lm, rfl, ⟨dl, hl2⟩, fun H3 h3 f3 => k H3 ⟨dx, st, l, hS2.lims e1 h3 f3⟩ ((Fr.of s2).trans (f3.in1 (foot_L e1)))⟩⟩
theorem ok_Sensor_sample {f : Addr} {fd : FuncData} (F : Fun K "sample" "Sensor.sample" s_Sensor_sample f fd) (T : Txt K mg C) (D_Channel_take : MethD P w K mg base C.ch "take" 3 ["self", "count"] (sp_Channel_take C)) (D_Settings_has_in_range : MethD P w K mg base C.st "has_in_range" 1 ["self", "count"] (sp_Settings_has_in_range C)) (D_Sensor_compare_channels : MethD P w K mg base C.se "compare_channels" 11 ["self"] (sp_Sensor_compare_channels C)) (D_Sensor_watch_limits : MethD P w K mg base C.se "watch_limits" 11 ["self"] (sp_Sensor_watch_limits C)) : FnOk P w K mg base CX0 12 f fd ["self", "m", "n"] (sp_Sensor_sample C) := by
  refine F.ok sc_Sensor_sample (fun _ _ _ _ h => h.1) (fun cdv A outer s H vs Q E hr h => ?_)
  obtain ⟨-, h⟩ := h
  obtain ⟨a, s, m, n, rfl, ⟨dx, st, l, hS⟩, ok, hm, hn, k⟩ := h
  refine ⟨_, (pss_cons (ps_expr (x_meth (x_ixl (x_fld (pv 0)) pe_int) D_Channel_take (hr.mono (by decide)) (pa_cons (pv 1) pa_nil))) (pss_cons (ps_expr (x_meth (x_ixl (x_fld (pv 0)) pe_int) D_Channel_take (hr.mono (by decide)) (pa_cons (pv 2) pa_nil))) (pss_cons (ps_if (PW.pt (pw_and (pt_val (x_meth (x_fld (pv 0)) D_Settings_has_in_range (hr.mono (by decide)) (pa_cons (pv 1) pa_nil))) (pw_and1 (pt_val (x_meth (x_fld (pv 0)) D_Settings_has_in_range (hr.mono (by decide)) (pa_cons (pv 2) pa_nil)))))) (pss_one (ps_expr (x_meth0 (pv 0) D_Sensor_compare_channels (hr.mono (by decide))))) pss_nil) (pss_one (ps_expr (x_meth0 (pv 0) D_Sensor_watch_limits (hr.mono (by decide)))))))), ?_⟩
  rw [sample_eq] at k
  obtain ⟨dc0, sc0, gc0, oc0, wc0, hc0⟩ := hS.a0
  refine ⟨_, rfl, _, sef_channels T hS.at_, _, IxL.k0 hS.chs, ch_no _ hc0.at_, _, rfl, rfl, a.c0, m, s.form, s.a, rfl, hS.a0, ok.a.wl, fun H1 h1 f1 => ?_⟩
  have hS1 := hS.chA h1 f1
  obtain ⟨dc1, sc1, gc1, oc1, wc1, hc1⟩ := hS1.a1
  refine ⟨_, rfl, _, sef_channels T hS1.at_, _, IxL.k1 hS1.chs, ch_no _ hc1.at_, _, rfl, rfl, a.c1, n, s.form, s.b, rfl, hS1.a1, ok.b.wl, fun H2 h2 f2 => ?_⟩
  have hS2 : SeC C H2 a dx st l { s with a := Vbdlac.take s.form s.a m, b := Vbdlac.take s.form s.b n } := hS1.chB h2 f2
  have ok2 : SeOk { s with a := Vbdlac.take s.form s.a m, b := Vbdlac.take s.form s.b n } := ⟨ok.f, take_ok ok.f ok.a hm, take_ok ok.f ok.b hn⟩
  have fr2 : Fr (foot a) H H2 := (f1.in1 (foot_0 a)).trans (f2.in1 (foot_1 a))
  generalize hs2 : ({ s with a := Vbdlac.take s.form s.a m, b := Vbdlac.take s.form s.b n } : Sn) = s2 at hS2 ok2 k
  have ef : s2.form = s.form := by rw [← hs2]
  obtain ⟨ds, pl, hs, hp⟩ := hS2.set
  dsimp only
  refine seq_if (fun H3 => SeAt C H3 a (Vbdlac.compare s2 m n) ∧ Fr (foot a) H H3) ?_ ?_
  · rintro H3 ⟨⟨dx3, st3, l3, hS3⟩, f3⟩
    exact ⟨_, rfl, se_no _ hS3.at_, rfl, a, _, rfl, ⟨dx3, st3, l3, hS3⟩, compare_ok ok2, fun H4 h4 f4 => k H4 h4 (f3.trans f4)⟩
  · intro rest
    rw [compare_eq] at rest
    refine ⟨_, rfl, _, sef_settings T hS2.at_, st_no _ hs, _, rfl, rfl, st, m, s2.form, rfl, hS2.set, _, rfl, ifC (fun q1 => ⟨_, rfl, _, sef_settings T hS2.at_, st_no _ hs, _, rfl, rfl, st, n, s2.form, rfl, hS2.set, _, rfl, ifC (fun q2 => ?_) (fun q2 => ?_)⟩) (fun q1 => iteF ?_)⟩
    · rw [if_neg (by rw [q1, q2]; decide)] at rest
      exact ⟨_, rfl, se_no _ hS2.at_, rfl, a, s2, rfl, ⟨dx, st, l, hS2⟩, ok2, fun H3 h3 f3 => rest H3 ⟨h3, fr2.trans f3⟩⟩
    · rw [if_pos (.inr q2)] at rest
      exact rest H2 ⟨⟨dx, st, l, hS2⟩, fr2⟩
    · rw [if_pos (.inl q1)] at rest
      exact rest H2 ⟨⟨dx, st, l, hS2⟩, fr2⟩
end
end Tw
set_option Elab.async false
set_option linter.all false
set_option maxRecDepth 100000
set_option maxHeartbeats 2000000
namespace Tw
open PySem PySem.Spec PyProof.Rows L2 L3
section
variable {X : Cx} {a b e : Expr} {ta tb : TE} {f : Str} {pos : Pos} {K : PySem.W.Frag}
theorem x_fldK (hK : X.K = K) (he : PE X e ta) (hb : attributeBase e f X.env (eval e X.env) = eval e X.env := by rfl) : PE X (.Attribute e f pos) (xFld K ta f) := by
  subst hK
  exact x_fld he hb
theorem x_ixlK (hK : X.K = K) (ha : PE X a ta) (hb : PE X b tb) (hs : PlainIx b := by intro _ _; rfl) : PE X (.Subscript a b pos) (tOp (rIL K) ta tb) := by
  subst hK
  exact x_ixl ha hb hs
theorem x_ixtK (hK : X.K = K) (ha : PE X a ta) (hb : PE X b tb) (hs : PlainIx b := by intro _ _; rfl) : PE X (.Subscript a b pos) (tOp (rIT K) ta tb) := by
  subst hK
  exact x_ixt ha hb hs
end
theorem yes_if {σ : L2.St} {H : Hp} {A B : Hp → Prop} (h : A H) : tYes σ H fun b H3 => if b = true then A H3 else B H3 := h
theorem lc_rangeC {lo c : Int} {n : Nat} {g : TG} {tt : TT} {te : TE} {vs : List Nat} {σ : L2.St} {H1 : Hp} {D : Addr} {Qd : Hp → Prop} (Pv : Nat → Hp → Prop) (h0 : Pv 0 (upd H1 D (.lst [])))
    (hs : ∀ i H, i < n → Pv i H → g (.int (lo + (i : Nat) * c)) (wipe σ vs) H fun σ2 H2 => wipe σ2 vs = wipe σ vs ∧ tt σ2 H2 fun b H3 =>
      if b = true then te σ2 H3 fun y H4 => ∃ acc, H4 D = some (.lst acc) ∧ acc.length < sizeLine ∧ Pv (i + 1) (upd H4 D (.lst (acc ++ [y]))) else Pv (i + 1) H3) (hd : ∀ H, Pv n H → Qd H) :
    ∃ W : Nat → Nat → Hp → Prop, (∃ m, W 0 m (upd H1 D (.lst []))) ∧ ∀ i m H, W i m H →
      ((Itc lo c n).stop i H ∧ Qd H) ∨ ((Itc lo c n).go i H ∧ ∃ Nx : Hp → Prop, (∀ H', Nx H' → ∃ m', m' < m ∧ W (i + 1) m' H') ∧ ∀ x H', (Itc lo c n).yld i H x H' → g x (wipe σ vs) H' fun σ2 H2 => wipe σ2 vs = wipe σ vs ∧ tt σ2 H2 fun b H3 =>
        if b = true then te σ2 H3 fun y H4 => ∃ acc, H4 D = some (.lst acc) ∧ acc.length < sizeLine ∧ Nx (upd H4 D (.lst (acc ++ [y]))) else Nx H3) := by
  refine ⟨fun i m H => m = n - i ∧ i ≤ n ∧ Pv i H, ⟨n, by simp, Nat.zero_le _, h0⟩, ?_⟩
  rintro i m H ⟨rfl, hi, p⟩
  by_cases hlt : i < n
  · refine .inr ⟨hlt, Pv (i + 1), fun H' p' => ⟨n - (i + 1), by omega, rfl, hlt, p'⟩, fun x H' y => ?_⟩
    obtain ⟨e, y⟩ := y
    subst e y
    exact hs i _ hlt p
  · have e : i = n := by omega
    subst e
    exact .inl ⟨Nat.le_refl _, hd H p⟩
theorem lc_str {z : Str} {g : TG} {tt : TT} {te : TE} {vs : List Nat} {σ : L2.St} {H1 : Hp} {D : Addr} {Qd : Hp → Prop} (Pv : Nat → Hp → Prop) (h0 : Pv 0 (upd H1 D (.lst [])))
    (hs : ∀ i c H, z.cps[i]? = some c → Pv i H → g (.str ⟨#[c]⟩) (wipe σ vs) H fun σ2 H2 => wipe σ2 vs = wipe σ vs ∧ tt σ2 H2 fun b H3 =>
      if b = true then te σ2 H3 fun y H4 => ∃ acc, H4 D = some (.lst acc) ∧ acc.length < sizeLine ∧ Pv (i + 1) (upd H4 D (.lst (acc ++ [y]))) else Pv (i + 1) H3) (hd : ∀ H, Pv z.cps.size H → Qd H) :
    ∃ W : Nat → Nat → Hp → Prop, (∃ m, W 0 m (upd H1 D (.lst []))) ∧ ∀ i m H, W i m H →
      ((Its z).stop i H ∧ Qd H) ∨ ((Its z).go i H ∧ ∃ Nx : Hp → Prop, (∀ H', Nx H' → ∃ m', m' < m ∧ W (i + 1) m' H') ∧ ∀ x H', (Its z).yld i H x H' → g x (wipe σ vs) H' fun σ2 H2 => wipe σ2 vs = wipe σ vs ∧ tt σ2 H2 fun b H3 =>
        if b = true then te σ2 H3 fun y H4 => ∃ acc, H4 D = some (.lst acc) ∧ acc.length < sizeLine ∧ Nx (upd H4 D (.lst (acc ++ [y]))) else Nx H3) := by
  refine ⟨fun i m H => m = z.cps.size - i ∧ i ≤ z.cps.size ∧ Pv i H, ⟨z.cps.size, by simp, Nat.zero_le _, h0⟩, ?_⟩
  rintro i m H ⟨rfl, hi, p⟩
  by_cases hlt : i < z.cps.size
  · refine .inr ⟨hlt, Pv (i + 1), fun H' p' => ⟨z.cps.size - (i + 1), by omega, rfl, hlt, p'⟩, fun x H' y => ?_⟩
    obtain ⟨e, c, y1, y2⟩ := y
    subst e y2
    exact hs i c _ y1 p
  · have e : i = z.cps.size := by omega
    subst e
    exact .inl ⟨Nat.le_refl _, hd H p⟩
theorem take_snoc {α : Type} {l : List α} {i : Nat} {x : α} (h : l[i]? = some x) : l.take (i + 1) = l.take i ++ [x] := by
  rw [List.take_succ, h]
  rfl
theorem lc_pts {K : PySem.W.Frag} {a D : Addr} {ps : List Addr} {l : List (Int × Int)} {te : TE} {vs : List Nat} {i9 : Nat} {σ : L2.St} {H1 : Hp} {Qd : Hp → Prop} (F : Int × Int → Int)
    (hp : H1 a = some (.lst (ps.map V.ref))) (hl : PtsAt H1 ps l) (hlen : l.length ≤ 1000) (hD : H1 D = none)
    (hw : ∀ x, wipe ((wipe σ vs).set i9 (some x)) vs = wipe σ vs)
    (he : ∀ (p : Addr) (c : Int × Int) (H' : Hp) (Qe : VK), H' p = some (.tup [.int c.1, .int c.2]) → c ∈ l → Qe (.int (F c)) H' → te ((wipe σ vs).set i9 (some (.ref p))) H' Qe)
    (hd : ∀ H', Same H1 H' → H' D = some (.lst ((l.map F).map V.int)) → Qd H') :
    ∃ W : Nat → Nat → Hp → Prop, (∃ m, W 0 m (upd H1 D (.lst []))) ∧ ∀ i m H, W i m H →
      ((Itl K a).stop i H ∧ Qd H) ∨ ((Itl K a).go i H ∧ ∃ Nx : Hp → Prop, (∀ H', Nx H' → ∃ m', m' < m ∧ W (i + 1) m' H') ∧ ∀ x H', (Itl K a).yld i H x H' → gName i9 x (wipe σ vs) H' fun σ2 H2 => wipe σ2 vs = wipe σ vs ∧ tYes σ2 H2 fun b H3 =>
        if b = true then te σ2 H3 fun y H4 => ∃ acc, H4 D = some (.lst acc) ∧ acc.length < sizeLine ∧ Nx (upd H4 D (.lst (acc ++ [y]))) else Nx H3) := by
  refine lc_list (K := K) (a := a) (xs := ps.map V.ref) (fun i H' => Same H1 H' ∧ H' D = some (.lst (((l.take i).map F).map V.int))) ⟨same_upd (Same.refl _) hD, upd_same⟩ (fun i H' _ ⟨s', _⟩ => SqL.of (s' _ _ hp)) ?_ ?_
  · rintro i x H' hx ⟨s', hD'⟩
    obtain ⟨p, c, rfl, hc, hpt⟩ := pts_item hl hx
    refine ⟨hw _, yes_if (he p c H' _ (s' _ _ hpt) (List.mem_of_getElem? hc) ⟨_, hD', ?_, same_upd s' hD, ?_⟩)⟩
    · rw [List.length_map, List.length_map, List.length_take, sizeLine_eq]
      omega
    · rw [upd_same, take_snoc hc, List.map_append, List.map_append]
      rfl
  · rintro H' ⟨s', hD'⟩
    rw [List.length_map, hl.1, List.take_length] at hD'
    exact hd H' s' hD'
section
variable {P : Program} {w : World} {K : PySem.W.Frag} {mg : Str → Option Value} {base : Heap} {C : Cs}
theorem ok_text_numbers {f : Addr} {fd : FuncData} (F : Fun K "text_numbers" "text_numbers" s_text_numbers f fd) (T : Txt K mg C)  : FnOk P w K mg base CX0 1 f fd ["text"] (sp_text_numbers C) := by
  refine F.ok sc_text_numbers (fun _ _ _ _ h => h.1) (fun cdv A outer s H vs Q E hr h => ?_)
  obtain ⟨-, h⟩ := h
  obtain ⟨z, rfl, hz, k⟩ := h
  refine ⟨_, (pss_one (ps_ret (pe_op x_opcat (x_lst (pa_cons (pe_callB call_len_str (by rfl) T.b_len boot_len' (pa_cons (pv 0) pa_nil)) pa_nil)) (pe_lc rfl sc_text_numbers.nd (pi_str (pv 0)) (blkOk_by (N := ["text", "sign"]) (sc := defScope s_text_numbers) (own := [("sign", 1)]) (by decide +kernel)) (fun _ _ _ _ _ => (pg_name (i := 1) sc_text_numbers.nd rfl (Or.inl rfl))) (fun _ _ _ _ _ => pts_nil) (fun _ _ _ _ _ => (pe_callB call_ord (by rfl) T.b_ord boot_ord' (pa_cons (pv 1) pa_nil))))))), ?_⟩
  have hz : z.cps.size ≤ 100000 := hz
  refine ⟨_, rfl, z, rfl, small_len (Nat.le_trans hz (by decide)), small_len (by simp), fun p2 H2 N2 => ⟨_, rfl, z, rfl, fun D hD => lc_str (fun i H' => Same H2 H' ∧ H' D = some (.lst ((z.cps.toList.take i).map fun (c : Nat) => V.int (c : Int)))) ⟨same_upd (Same.refl _) hD, upd_same⟩ ?_ ?_⟩⟩
  · rintro i c H' hc ⟨s', hD'⟩
    refine ⟨rfl, yes_if ⟨_, rfl, _, rfl, rfl, _, hD', ?_, same_upd s' hD, ?_⟩⟩
    · rw [List.length_map, List.length_take, Array.length_toList, sizeLine_eq]
      omega
    · have hc2 : z.cps.toList[i]? = some c := by rw [Array.getElem?_toList]; exact hc
      rw [upd_same, take_snoc hc2, List.map_append]
      rfl
  · rintro H' ⟨s', hD'⟩
    have hl : z.cps.toList.length = z.cps.size := Array.length_toList
    rw [← hl, List.take_length] at hD'
    refine ⟨p2, D, _, _, rfl, rfl, s' _ _ N2.at_, hD', small_len ?_, fun p3 H3 N3 => k p3 H3 ((N2.same.trans s').trans N3.same) ((N2.same.trans s').free N3.fresh) ?_⟩
    · rw [List.length_map, hl]
      show 1 + z.cps.size ≤ _
      omega
    · rw [N3.at_]
      show some (HO.lst (V.int (z.length : Int) :: z.cps.toList.map fun (c : Nat) => V.int (c : Int))) = some (HO.lst (V.int (z.length : Int) :: (z.cps.toList.map fun (c : Nat) => (c : Int)).map V.int))
      rw [List.map_map]
      rfl
theorem face_map (s : Sn) : (Vbdlac.face s).map V.int = ([.int (s.a.fault : Int), .int (s.b.fault : Int)] ++ [.int (Vbdlac.alarmOf s : Int)]) ++ (anyL (Vbdlac.reading s)).map V.int := by
  unfold Vbdlac.face
  cases Vbdlac.reading s <;> rfl
theorem ok_sensor_answer {f : Addr} {fd : FuncData} (F : Fun K "sensor_answer" "sensor_answer" s_sensor_answer f fd) (T : Txt K mg C) (D_Sensor_alarm_now : MethD P w K mg base C.se "alarm_now" 1 ["self"] (sp_Sensor_alarm_now C)) (D_number_if_any : Def P w K mg base "number_if_any" 1 ["number"] (sp_number_if_any C)) (D_Sensor_reading_now : MethD P w K mg base C.se "reading_now" 10 ["self"] (sp_Sensor_reading_now C)) : FnOk P w K mg base CX0 11 f fd ["sensor"] (sp_sensor_answer C) := by
  refine F.ok sc_sensor_answer (fun _ _ _ _ h => h.1) (fun cdv A outer s H vs Q E hr h => ?_)
  obtain ⟨-, h⟩ := h
  obtain ⟨a, s, rfl, ⟨dx, st, l, hS⟩, ok, k⟩ := h
  refine ⟨_, (pss_cons (ps_setLc (i := 1) rfl sc_sensor_answer.nd rfl rfl (sw_true rfl rfl rfl (by decide +kernel)) (pi_list (x_fld (pv 0))) (blkOk_by (N := ["sensor", "faults", "channel"]) (sc := defScope s_sensor_answer) (own := [("channel", 2)]) (by decide +kernel)) (fun _ _ _ _ _ => (pg_name (i := 2) sc_sensor_answer.nd rfl (Or.inl rfl))) (fun _ _ _ _ _ => pts_nil) (fun _ _ _ _ _ => (x_fldK (K := K) rfl (pv 2)))) (pss_one (ps_ret (pe_op x_opcat (pe_op x_opcat (pv 1) (x_lst (pa_cons (x_meth0 (pv 0) D_Sensor_alarm_now (hr.mono (by decide))) pa_nil))) (x_call D_number_if_any (hr.mono (by decide)) rfl (pa_cons (x_meth0 (pv 0) D_Sensor_reading_now (hr.mono (by decide))) pa_nil)))))), ?_⟩
  refine ⟨_, rfl, _, sef_channels T hS.at_, l, rfl, ⟨_, SqL.of hS.chs⟩, fun D hD => lc_list (K := K) (a := l) (xs := [.ref a.c0, .ref a.c1]) (fun i H' => Same H H' ∧ H' D = some (.lst ((([s.a, s.b] : List Ch).take i).map fun c => V.int (c.fault : Int)))) ⟨same_upd (Same.refl H) hD, upd_same⟩ (fun i H' _ ⟨s', _⟩ => SqL.of (s' _ _ hS.chs)) ?_ ?_⟩
  · rintro i x H' hx ⟨s', hD'⟩
    obtain ⟨c, ch, rfl, hi, hch, okc⟩ := two_item hS ok hx
    obtain ⟨dc, stc, gc, oc, wc, hc⟩ := hch.same s'
    refine ⟨rfl, yes_if ⟨_, rfl, _, chf_fault T hc.at_, _, hD', ?_, same_upd s' hD, ?_⟩⟩
    · rw [List.length_map, List.length_take, sizeLine_eq]
      show min i 2 < _
      omega
    · rw [upd_same, take_snoc hi, List.map_append]
      rfl
  · rintro H1 ⟨s1, hD1⟩
    have hS1 := hS.same s1
    have hD1 : H1 D = some (.lst [.int (s.a.fault : Int), .int (s.b.fault : Int)]) := hD1
    refine ⟨_, rfl, _, rfl, se_no _ hS1.at_, rfl, a, s, rfl, ⟨dx, st, l, hS1⟩, small_len (by simp), fun p2 H2 N2 => ⟨D, p2, _, _, rfl, rfl, N2.same _ _ hD1, N2.at_, small_len (by simp), fun p3 H3 N3 => ?_⟩⟩
    have s3 : Same H1 H3 := N2.same.trans N3.same
    have hS3 := hS1.same s3
    refine ⟨_, rfl, se_no _ hS3.at_, rfl, a, s, rfl, ⟨dx, st, l, hS3⟩, ok, fun H4 s4 => ⟨rfl, Vbdlac.reading s, rfl, fun p5 H5 N5 => ⟨p3, p5, _, _, rfl, rfl, N5.same _ _ (s4 _ _ N3.at_), N5.at_, small_len ?_, fun p6 H6 N6 => ?_⟩⟩⟩
    · rw [List.length_map]
      cases Vbdlac.reading s <;> show (3 : Nat) + 2 ≤ 16777216 <;> decide
    · have s5 : Same H H5 := ((s1.trans s3).trans s4).trans N5.same
      refine k p6 H6 (s5.trans N6.same) (s5.free N6.fresh) ?_
      rw [face_map]
      exact N6.at_
theorem ok_channel_state {f : Addr} {fd : FuncData} (F : Fun K "channel_state" "channel_state" s_channel_state f fd) (T : Txt K mg C)  : FnOk P w K mg base CX0 1 f fd ["channel"] (sp_channel_state C) := by
  refine F.ok sc_channel_state (fun _ _ _ _ h => h.1) (fun cdv A outer s H vs Q E hr h => ?_)
  obtain ⟨-, h⟩ := h
  obtain ⟨c, f, ch, rfl, ⟨dx, st, ag, ao, aw, hc⟩, hw, k⟩ := h
  refine ⟨_, (pss_one (ps_ret (pe_op x_opcat (x_lst (pa_cons (x_fld (pv 0)) (pa_cons (x_fld (pv 0)) (pa_cons (x_fld (pv 0)) (pa_cons (pe_callB x_callen (by rfl) T.b_len boot_len' (pa_cons (x_fld (pv 0)) pa_nil)) pa_nil))))) (x_fld (pv 0))))), ?_⟩
  refine ⟨_, rfl, _, chf_fault T hc.at_, _, rfl, _, chf_out T hc.at_, _, rfl, _, chf_alike T hc.at_, _, rfl, _, chf_window T hc.at_, _, LenF.l hc.win, small_len (by simp), fun p2 H2 N2 => ⟨_, rfl, _, chf_window T (N2.same _ _ hc.at_), p2, aw, _, _, rfl, rfl, N2.at_, N2.same _ _ hc.win, small_len ?_, fun p3 H3 N3 => k p3 H3 (N2.same.trans N3.same) (N2.same.free N3.fresh) ?_⟩⟩
  · rw [List.length_map]
    show 4 + ch.window.length ≤ _
    omega
  · rw [N3.at_, List.length_map]
    rfl
theorem ok_limits_state {f : Addr} {fd : FuncData} (F : Fun K "limits_state" "limits_state" s_limits_state f fd) (T : Txt K mg C)  : FnOk P w K mg base CX0 1 f fd ["limits"] (sp_limits_state C) := by
  refine F.ok sc_limits_state (fun _ _ _ _ h => h.1) (fun cdv A outer s H vs Q E hr h => ?_)
  obtain ⟨-, h⟩ := h
  obtain ⟨L, o, rfl, hl, k⟩ := h
  refine ⟨_, (pss_cons (ps_if (pt_cmpR op_isN (pv 0) pe_non (nomark _)) (pss_one (ps_ret (x_lst (pa_cons pe_int (pa_cons pe_int (pa_cons pe_int (pa_cons pe_int (pa_cons pe_int (pa_cons pe_int (pa_cons pe_int pa_nil)))))))))) pss_nil) (pss_one (ps_ret (x_lst (pa_cons pe_int (pa_cons (x_fld (pv 0)) (pa_cons (x_fld (pv 0)) (pa_cons (x_fld (pv 0)) (pa_cons (x_fld (pv 0)) (pa_cons (x_fld (pv 0)) (pa_cons (x_fld (pv 0)) pa_nil))))))))))), ?_⟩
  cases L with
  | none =>
    cases o with
    | none => exact ⟨_, rfl, rfl, _, rfl, iteT ⟨small_len (by simp), fun p H2 N => k p H2 N.same N.fresh N.at_⟩⟩
    | some z => exact hl.elim
  | some p =>
    cases o with
    | none => exact hl.elim
    | some z =>
      obtain ⟨dl, hl⟩ := (show LiAt C H p z from hl)
      exact ⟨_, rfl, rfl, _, rfl, iteF ⟨_, rfl, _, lif_low T hl, _, rfl, _, lif_high T hl, _, rfl, _, lif_back T hl, _, rfl, _, lif_below T hl, _, rfl, _, lif_above T hl, _, rfl, _, lif_alarm T hl, small_len (by simp), fun p H2 N => k p H2 N.same N.fresh N.at_⟩⟩
theorem IxT.ka {H : Hp} {q : Addr} {u v : V} (h : TupK K q [u, v]) : IxT K H (.ref q) (.int 0) u := ⟨q, _, 0, rfl, rfl, h.sq H, rfl⟩
theorem IxT.kb {H : Hp} {q : Addr} {u v : V} (h : TupK K q [u, v]) : IxT K H (.ref q) (.int 1) v := ⟨q, _, 1, rfl, rfl, h.sq H, rfl⟩
theorem form_at (T : Txt K mg C) (H : Hp) {n : Int} (h0 : 0 ≤ n) (h1 : n < 17) : ∃ q, IxT K H (.ref C.fo) (.int n) (.ref q) ∧ TupK K q [.int ((formAt n).1 : Int), .int ((formAt n).2 : Int)] := by
  obtain ⟨q, hq⟩ := some_at (l := C.fs) (i := n.toNat) (by rw [T.formsLen]; omega)
  refine ⟨q, ⟨C.fo, _, n, rfl, rfl, T.formsT.sq H, at_of (j := n.toNat) (by omega) (by rw [List.getElem?_map, hq]; rfl)⟩, T.formT n.toNat q hq⟩
theorem forms_small : ∀ i, i < 17 → (forms.getD i (0, 0)).1 ≤ 7 ∧ (forms.getD i (0, 0)).2 ≤ 2 := by decide
theorem formAt_small {n : Int} (h0 : 0 ≤ n) (h1 : n < 17) : (formAt n).1 ≤ 7 ∧ (formAt n).2 ≤ 2 := forms_small _ (by omega)
theorem hasForm_cons (n : Int) (r : List Int) : hasForm (n :: r) = (decide (0 ≤ n ∧ n < 17) && (if (formAt n).2 = 0 then decide (r.length = (formAt n).1) else decide ((formAt n).1 < r.length) && decide (r.getD (formAt n).1 0 * ((formAt n).2 : Int) = (r.length : Int) - ((formAt n).1 : Int) - 1))) := rfl
theorem ok_has_form {f : Addr} {fd : FuncData} (F : Fun K "has_form" "has_form" s_has_form f fd) (T : Txt K mg C)  : FnOk P w K mg base CX0 1 f fd ["numbers"] (sp_has_form C) := by
  refine F.ok sc_has_form (fun _ _ _ _ h => h.1) (fun cdv A outer s H vs Q E hr h => ?_)
  obtain ⟨-, h⟩ := h
  obtain ⟨p, ns, rfl, hp, sml, k⟩ := h
  refine ⟨_, (pss_cons (ps_if (PW.pt (pw_or (pt_cmpR x_opeq (pe_callB x_callen (by rfl) T.b_len boot_len' (pa_cons (pv 0) pa_nil)) pe_int (nomark _)) (pw_or1 (pt_not (pt_chain op_le op_lt pe_int (x_ixl (pv 0) pe_int) (pe_callB x_callen (by rfl) T.b_len boot_len' (pa_cons (x_gc rfl T.c_FORMS) pa_nil))))))) (pss_one (ps_ret pe_bl)) pss_nil) (pss_cons (ps_set (i := 1) sc_has_form.nd rfl (Or.inl rfl) (x_ixt (x_gc rfl T.c_FORMS) (x_ixl (pv 0) pe_int))) (pss_cons (ps_set (i := 2) sc_has_form.nd rfl (Or.inl rfl) (pe_op op_sub (pe_op op_sub (pe_callB x_callen (by rfl) T.b_len boot_len' (pa_cons (pv 0) pa_nil)) pe_int) (x_ixt (pv 1) pe_int))) (pss_cons (ps_if (pt_cmpR x_opeq (x_ixt (pv 1) pe_int) pe_int (nomark _)) (pss_one (ps_ret (pe_cmpR x_opeq (pv 2) pe_int (nomark _)))) pss_nil) (pss_one (ps_ret (pe_and (pe_cmpR op_ge (pv 2) pe_int (nomark _)) (pe_one (pe_cmpR x_opeq (pe_op x_opmul (x_ixl (pv 0) (pe_op op_add pe_int (x_ixt (pv 1) pe_int))) (x_ixt (pv 1) pe_int)) (pe_op op_sub (pv 2) pe_int) (nomark _)))))))))), ?_⟩
  cases ns with
  | nil => exact ⟨_, rfl, _, LenF.l hp, _, _, rfl, rfl, _, rfl, iteT (iteT k)⟩
  | cons n r =>
    have hlen : ((n :: r).map V.int).length = r.length + 1 := by rw [List.length_map]; rfl
    refine ⟨_, rfl, _, LenF.l hp, _, _, rfl, rfl, _, rfl, ifB (fun z => absurd z (by omega)) (fun _ => ⟨_, rfl, _, IxL.k0 hp, _, _, rfl, rfl, _, rfl, ifB (fun h1 => ⟨17, ⟨C.fo, _, rfl, .inr (T.formsT.sq _), by rw [List.length_map, T.formsLen]⟩, _, _, rfl, rfl, _, rfl, ifN (fun h2 => Qb k ?_) (fun h2 => ?_)⟩) (fun h1 => ⟨_, rfl, iteT (Qb k ?_)⟩)⟩)⟩
    · rw [hasForm_cons, decide_eq_false (by omega), Bool.false_and]
    · have h2 : n < 17 := h2
      obtain ⟨q, hq, hT⟩ := form_at T H h1 h2
      obtain ⟨f1, f2⟩ := formAt_small h1 h2
      rw [hasForm_cons, decide_eq_true ⟨h1, h2⟩, Bool.true_and] at k
      refine ⟨_, rfl, _, IxL.k0 hp, _, hq, ?_⟩
      refine ⟨_, rfl, _, LenF.l hp, _, _, rfl, rfl, _, rfl, _, IxT.ka hT, _, _, rfl, rfl, ?_⟩
      refine ⟨_, rfl, _, IxT.kb hT, _, _, rfl, rfl, _, rfl, ifB (fun h3 => ⟨_, rfl, _, _, rfl, rfl, Qb k ?_⟩) (fun h3 => ⟨_, rfl, _, _, rfl, rfl, _, rfl, ifB (fun h4 => ?_) (fun h4 => Qb k ?_)⟩)⟩
      · rw [if_pos (by omega)]
        apply Bool.eq_iff_iff.mpr
        rw [decide_eq_true_eq, decide_eq_true_eq]
        omega
      · have hr : (formAt n).1 < r.length := by omega
        have hget : ((n :: r).map V.int)[(formAt n).1 + 1]? = some (.int (r.getD (formAt n).1 0)) := by
          rw [List.getElem?_map, List.getElem?_cons_succ, List.getElem?_eq_getElem hr, List.getD_eq_getElem?_getD, List.getElem?_eq_getElem hr]
          rfl
        have hm : r.getD (formAt n).1 0 ∈ n :: r := by
          rw [List.getD_eq_getElem?_getD, List.getElem?_eq_getElem hr]
          exact List.mem_cons_of_mem _ (List.getElem_mem hr)
        have hb := sml.2 _ hm
        refine ⟨_, rfl, _, rfl, _, IxT.ka hT, _, _, rfl, rfl, _, IxL.n (j := (formAt n).1 + 1) hp (by omega) hget, _, rfl, _, IxT.kb hT, _, _, rfl, rfl, ⟨sm_of (n := 70) (by omega) (by decide), sm_of (n := 70) (by omega) (by decide)⟩, _, rfl, _, _, rfl, rfl, _, _, rfl, rfl, Qb k ?_⟩
        rw [if_neg (by omega), decide_eq_true hr, Bool.true_and]
        apply Bool.eq_iff_iff.mpr
        rw [decide_eq_true_eq, decide_eq_true_eq, hlen]
        omega
      · rw [if_neg (by omega), decide_eq_false (by omega), Bool.false_and]
    · rw [hasForm_cons, decide_eq_false (by omega), Bool.false_and]
theorem hasForm_le {n : Int} {r : List Int} (h : hasForm (n :: r) = true) : (formAt n).1 ≤ r.length := by
  rw [hasForm_cons, Bool.and_eq_true] at h
  have h2 := h.2
  split at h2
  · rw [decide_eq_true_eq] at h2
    omega
  · rw [Bool.and_eq_true, decide_eq_true_eq] at h2
    omega
theorem ok_plain_numbers {f : Addr} {fd : FuncData} (F : Fun K "plain_numbers" "plain_numbers" s_plain_numbers f fd) (T : Txt K mg C)  : FnOk P w K mg base CX0 1 f fd ["numbers"] (sp_plain_numbers C) := by
  refine F.ok sc_plain_numbers (fun _ _ _ _ h => h.1) (fun cdv A outer s H vs Q E hr h => ?_)
  obtain ⟨-, h⟩ := h
  obtain ⟨p, n, r, rfl, hp, sml, hf, k⟩ := h
  refine ⟨_, (pss_one (ps_ret (x_slice (pv 0) (po_some pe_int) (po_some (pe_op op_add pe_int (x_ixt (x_ixt (x_gc rfl T.c_FORMS) (x_ixl (pv 0) pe_int)) pe_int)))))), ?_⟩
  obtain ⟨h1, h2⟩ := hasForm_place hf
  obtain ⟨q, hq, hT⟩ := form_at T H h1 h2
  have hle := hasForm_le hf
  refine ⟨_, rfl, _, rfl, _, rfl, _, IxL.k0 hp, _, hq, _, IxT.ka hT, _, _, rfl, rfl, _, rfl, _, LstF.mk hp, fun g H2 N => k g H2 ?_⟩
  have e : cutV ((n :: r).map V.int) (some ((1 : Nat) : Int)) (some ((1 + (formAt n).1 : Nat) : Int)) = (r.take (formAt n).1).map V.int := by
    rw [cut_mid _ (by omega) (by rw [List.length_map, List.length_cons]; omega)]
    show ((r.map V.int).drop 0).take _ = _
    rw [List.drop_zero, List.map_take, Nat.add_sub_cancel_left]
  rw [← e, Int.natCast_add]
  exact N
theorem pairs_get : ∀ {L : List Int} {i : Nat}, 2 * i + 1 < L.length → (Vbdlac.pairsOf L)[i]? = some (L.getD (2 * i) 0, L.getD (2 * i + 1) 0)
  | [], i, h => by simp at h
  | [a], i, h => by simp at h
  | a :: b :: l, 0, h => rfl
  | a :: b :: l, i + 1, h => by
    have ih := pairs_get (L := l) (i := i) (by simp at h; omega)
    show (Vbdlac.pairsOf l)[i]? = some ((a :: b :: l).getD (2 * i + 2) 0, (a :: b :: l).getD (2 * i + 2 + 1) 0)
    rw [ih]
    rfl
theorem pairs_len : ∀ L : List Int, (Vbdlac.pairsOf L).length = L.length / 2
  | [] => rfl
  | [a] => by
    show ([] : List (Int × Int)).length = 1 / 2
    rfl
  | a :: b :: l => by
    show (Vbdlac.pairsOf l).length + 1 = _
    rw [pairs_len l]
    simp
    omega
theorem rg2 {n : Nat} (h : n ≤ 30000) : RgC 0 (n : Int) 2 ((n + 1) / 2) := by
  have e : Builtin.Range.rangeSize 0 (n : Int) 2 = (((n + 1) / 2 : Nat) : Int) := by
    unfold Builtin.Range.rangeSize
    rw [if_pos (by decide)]
    split <;> omega
  refine ⟨by decide, by decide, ?_, e⟩
  unfold Builtin.Range.small
  rw [e]
  rw [if_pos (by decide)]
  simp only [Builtin.Range.rangeFitsLong, Bool.and_eq_true, Bool.or_eq_true, decide_eq_true_eq, beq_iff_eq]
  omega
theorem getD_map {L : List Int} {j : Nat} (h : j < L.length) : (L.map V.int)[j]? = some (.int (L.getD j 0)) := by
  rw [List.getElem?_map, List.getElem?_eq_getElem h, List.getD_eq_getElem?_getD, List.getElem?_eq_getElem h]
  rfl
theorem PtsAt.snoc {H : Hp} {ps : List Addr} {l : List (Int × Int)} {i : Nat} {c : Int × Int} {p : Addr} (h : PtsAt H ps (l.take i)) (hi : ps.length = i) (hc : l[i]? = some c) (hp : H p = some (.tup [.int c.1, .int c.2])) : PtsAt H (ps ++ [p]) (l.take (i + 1)) := by
  rw [take_snoc hc]
  have e := h.1
  refine ⟨by rw [List.length_append, List.length_append, e]; rfl, fun j q d hq hd => ?_⟩
  by_cases hj : j < ps.length
  · rw [List.getElem?_append_left hj] at hq
    rw [List.getElem?_append_left (by rw [← e]; exact hj)] at hd
    exact h.2 j q d hq hd
  · have hj2 : j < (ps ++ [p]).length := (List.getElem?_eq_some_iff.mp hq).1
    have ej : j = ps.length := by rw [List.length_append] at hj2; simp at hj2; omega
    rw [ej, List.getElem?_append_right (Nat.le_refl _), Nat.sub_self] at hq
    rw [ej, e, List.getElem?_append_right (Nat.le_refl _), Nat.sub_self] at hd
    cases hq
    cases hd
    exact hp
theorem PtsAt.same {H H' : Hp} {ps : List Addr} {l : List (Int × Int)} (h : PtsAt H ps l) (s : Same H H') : PtsAt H' ps l := ⟨h.1, fun i p c h1 h2 => s _ _ (h.2 i p c h1 h2)⟩
theorem ok_listed_things {f : Addr} {fd : FuncData} (F : Fun K "listed_things" "listed_things" s_listed_things f fd) (T : Txt K mg C)  : FnOk P w K mg base CX0 1 f fd ["numbers"] (sp_listed_things C) := by
  refine F.ok sc_listed_things (fun _ _ _ _ h => h.1) (fun cdv A outer s H vs Q E hr h => ?_)
  obtain ⟨-, h⟩ := h
  obtain ⟨p, n, r, rfl, hp, sml, hf, k⟩ := h
  refine ⟨_, (pss_cons (ps_set (i := 1) sc_listed_things.nd rfl (Or.inl rfl) (x_ixt (x_gc rfl T.c_FORMS) (x_ixl (pv 0) pe_int))) (pss_cons (ps_set (i := 2) sc_listed_things.nd rfl (Or.inr rfl) (x_slice (pv 0) (po_some (pe_op op_add pe_int (x_ixt (pv 1) pe_int))) po_none)) (pss_cons (ps_if (pt_cmpR x_opeq (x_ixt (pv 1) pe_int) pe_int (nomark _)) (pss_one (ps_ret (pe_lc rfl sc_listed_things.nd (pi_range3 rfl T.b_range (pa_cons pe_int (pa_cons (pe_callB x_callen (by rfl) T.b_len boot_len' (pa_cons (pv 2) pa_nil)) (pa_cons pe_int pa_nil)))) (blkOk_by (N := ["numbers", "form", "listed", "k"]) (sc := defScope s_listed_things) (own := [("k", 3)]) (by decide +kernel)) (fun _ _ _ _ _ => (pg_name (i := 3) sc_listed_things.nd rfl (Or.inl rfl))) (fun _ _ _ _ _ => pts_nil) (fun _ _ _ _ _ => (x_tup (pa_cons (x_ixlK (K := K) rfl (pv 2) (pv 3)) (pa_cons (x_ixlK (K := K) rfl (pv 2) (pe_op op_add (pv 3) pe_int)) pa_nil))))))) pss_nil) (pss_one (ps_ret (pv 2)))))), ?_⟩
  obtain ⟨h1, h2⟩ := hasForm_place hf
  obtain ⟨q, hq, hT⟩ := form_at T H h1 h2
  have hle := hasForm_le hf
  obtain ⟨f1, f2⟩ := formAt_small h1 h2
  have hrl : r.length ≤ 20000 := by
    have := sml.1
    rw [List.length_cons] at this
    omega
  refine ⟨_, rfl, _, IxL.k0 hp, _, hq, ?_⟩
  refine ⟨_, rfl, _, rfl, _, IxT.ka hT, _, _, rfl, rfl, _, rfl, _, LstF.mk hp, fun g H2 N => ?_⟩
  have e : cutV ((n :: r).map V.int) (some (2 + ((formAt n).1 : Int))) none = (r.drop ((formAt n).1 + 1)).map V.int := by
    rw [show 2 + ((formAt n).1 : Int) = (((formAt n).1 + 1 + 1 : Nat) : Int) by omega, cut_from]
    show (r.map V.int).drop _ = _
    rw [List.map_drop]
  rw [e] at N
  obtain ⟨L, hL⟩ : ∃ L, L = r.drop ((formAt n).1 + 1) := ⟨_, rfl⟩
  rw [← hL] at N k
  have hLl : L.length = r.length - ((formAt n).1 + 1) := by rw [hL, List.length_drop]
  refine ⟨_, rfl, _, IxT.kb hT, _, _, rfl, rfl, _, rfl, ifB (fun h3 => ?_) (fun h3 => ⟨_, rfl, k g H2 N.same N.fresh (fun z => absurd z (by omega)) (fun _ => N.at_)⟩)⟩
  have hf2 : formAt n = ((formAt n).1, 2) := by
    have h3 : ((formAt n).2 : Int) = 2 := h3
    rw [show 2 = (formAt n).2 by omega]
  obtain ⟨g1, g2⟩ := hasForm_list hf hf2 (by decide)
  have hev : L.length % 2 = 0 := by omega
  have hlm : (L.map V.int).length = L.length := List.length_map ..
  refine ⟨_, rfl, _, LenF.l N.at_, 0, _, 2, (L.length + 1) / 2, rfl, ?_, fun D hD => lc_rangeC (fun i H' => Same H2 H' ∧ ∃ ps : List Addr, ps.length = i ∧ H' D = some (.lst (ps.map V.ref)) ∧ PtsAt H' ps ((Vbdlac.pairsOf L).take i)) ⟨same_upd (Same.refl _) hD, [], rfl, upd_same, rfl, fun i p c z => by simp at z⟩ ?_ ?_⟩
  · rw [hlm]
    exact rg2 (by omega)
  · rintro i H' hi ⟨s', ps, hps, hD', hP⟩
    have hi2 : 2 * i + 1 < L.length := by omega
    refine ⟨rfl, yes_if ⟨_, rfl, _, rfl, _, IxL.n (j := 2 * i) (s' _ _ N.at_) (by omega) (getD_map (by omega)), _, rfl, _, rfl, _, _, rfl, rfl, _, IxL.n (j := 2 * i + 1) (s' _ _ N.at_) (by omega) (getD_map (by omega)), small_len (by simp), fun p4 H4 N4 => ⟨_, N4.same _ _ hD', ?_, same_upd (s'.trans N4.same) hD, ps ++ [p4], ?_, ?_, ?_⟩⟩⟩
    · rw [List.length_map, hps, sizeLine_eq]
      omega
    · rw [List.length_append, hps]
      rfl
    · rw [upd_same, List.map_append]
      rfl
    · have np : p4 ≠ D := fun z => by
        have := N4.fresh
        rw [z, hD'] at this
        cases this
      have h4 : PtsAt H4 (ps ++ [p4]) ((Vbdlac.pairsOf L).take (i + 1)) := (hP.same N4.same).snoc hps (pairs_get hi2) N4.at_
      refine ⟨h4.1, fun j x c hx hc => ?_⟩
      have hh := h4.2 j x c hx hc
      rw [upd_ne (ne_of hh (N4.same _ _ hD') (by intro z; cases z))]
      exact hh
  · rintro H' ⟨s', ps, hps, hD', hP⟩
    have em : (L.length + 1) / 2 = (Vbdlac.pairsOf L).length := by rw [pairs_len]; omega
    rw [em, List.take_length] at hP
    exact k D H' (N.same.trans s') (N.same.free hD) (fun _ => ⟨ps, hD', hP⟩) (fun z => absurd (by omega) z)
end
end Tw
set_option Elab.async false
set_option linter.all false
set_option maxRecDepth 100000
set_option maxHeartbeats 2000000
namespace Tw
open PySem PySem.Spec PyProof.Rows L2 L3
section
variable {P : Program} {w : World} {K : PySem.W.Frag} {mg : Str → Option Value} {base : Heap} {C : Cs}
theorem ok_fitted_line {f : Addr} {fd : FuncData} (F : Fun K "fitted_line" "fitted_line" s_fitted_line f fd) (T : Txt K mg C) (D_ratio : Def P w K mg base "ratio" 2 ["top", "bottom"] (sp_ratio C)) (D_subtracted : Def P w K mg base "subtracted" 3 ["a", "b"] (sp_subtracted C)) (D_multiplied : Def P w K mg base "multiplied" 3 ["a", "b"] (sp_multiplied C)) (D_whole : Def P w K mg base "whole" 1 ["number"] (sp_whole C)) (D_divided : Def P w K mg base "divided" 3 ["a", "b"] (sp_divided C)) : FnOk P w K mg base CX0 4 f fd ["points"] (sp_fitted_line C) := by
  refine F.ok sc_fitted_line (fun _ _ _ _ h => h.1) (fun cdv A outer s H vs Q E hr h => ?_)
  obtain ⟨-, h⟩ := h
  obtain ⟨a, l, rfl, ⟨ps, hp, hl⟩, h2, h16, ok, kn, ks⟩ := h
  refine ⟨_, (pss_cons (ps_set (i := 1) sc_fitted_line.nd rfl (Or.inl rfl) (pe_callB x_callen (by rfl) T.b_len boot_len' (pa_cons (pv 0) pa_nil))) (pss_cons (ps_set (i := 2) sc_fitted_line.nd rfl (Or.inl rfl) (pe_callB (cr_sum rfl) (by rfl) T.b_sum boot_sum' (pa_cons (pe_lc rfl sc_fitted_line.nd (pi_list (pv 0)) (blkOk_by (N := ["points", "k", "counts", "values", "squares", "products", "spread", "slope", "rest", "point"]) (sc := defScope s_fitted_line) (own := [("point", 9)]) (by decide +kernel)) (fun _ _ _ _ _ => (pg_name (i := 9) sc_fitted_line.nd rfl (Or.inl rfl))) (fun _ _ _ _ _ => pts_nil) (fun _ _ _ _ _ => (x_ixtK (K := K) rfl (pv 9) pe_int))) pa_nil))) (pss_cons (ps_set (i := 3) sc_fitted_line.nd rfl (Or.inl rfl) (pe_callB (cr_sum rfl) (by rfl) T.b_sum boot_sum' (pa_cons (pe_lc rfl sc_fitted_line.nd (pi_list (pv 0)) (blkOk_by (N := ["points", "k", "counts", "values", "squares", "products", "spread", "slope", "rest", "point"]) (sc := defScope s_fitted_line) (own := [("point", 9)]) (by decide +kernel)) (fun _ _ _ _ _ => (pg_name (i := 9) sc_fitted_line.nd rfl (Or.inl rfl))) (fun _ _ _ _ _ => pts_nil) (fun _ _ _ _ _ => (x_ixtK (K := K) rfl (pv 9) pe_int))) pa_nil))) (pss_cons (ps_set (i := 4) sc_fitted_line.nd rfl (Or.inl rfl) (pe_callB (cr_sum rfl) (by rfl) T.b_sum boot_sum' (pa_cons (pe_lc rfl sc_fitted_line.nd (pi_list (pv 0)) (blkOk_by (N := ["points", "k", "counts", "values", "squares", "products", "spread", "slope", "rest", "point"]) (sc := defScope s_fitted_line) (own := [("point", 9)]) (by decide +kernel)) (fun _ _ _ _ _ => (pg_name (i := 9) sc_fitted_line.nd rfl (Or.inl rfl))) (fun _ _ _ _ _ => pts_nil) (fun _ _ _ _ _ => (pe_op x_opmul (x_ixtK (K := K) rfl (pv 9) pe_int) (x_ixtK (K := K) rfl (pv 9) pe_int)))) pa_nil))) (pss_cons (ps_set (i := 5) sc_fitted_line.nd rfl (Or.inl rfl) (pe_callB (cr_sum rfl) (by rfl) T.b_sum boot_sum' (pa_cons (pe_lc rfl sc_fitted_line.nd (pi_list (pv 0)) (blkOk_by (N := ["points", "k", "counts", "values", "squares", "products", "spread", "slope", "rest", "point"]) (sc := defScope s_fitted_line) (own := [("point", 9)]) (by decide +kernel)) (fun _ _ _ _ _ => (pg_name (i := 9) sc_fitted_line.nd rfl (Or.inl rfl))) (fun _ _ _ _ _ => pts_nil) (fun _ _ _ _ _ => (pe_op x_opmul (x_ixtK (K := K) rfl (pv 9) pe_int) (x_ixtK (K := K) rfl (pv 9) pe_int)))) pa_nil))) (pss_cons (ps_set (i := 6) sc_fitted_line.nd rfl (Or.inl rfl) (pe_op op_sub (pe_op x_opmul (pv 1) (pv 4)) (pe_op x_opmul (pv 2) (pv 2)))) (pss_cons (ps_if (pt_cmpR x_opeq (pv 6) pe_int (nomark _)) (pss_one (ps_ret pe_non)) pss_nil) (pss_cons (ps_set (i := 7) sc_fitted_line.nd rfl (Or.inl rfl) (x_call D_ratio (hr.mono (by decide)) rfl (pa_cons (pe_op op_sub (pe_op x_opmul (pv 1) (pv 5)) (pe_op x_opmul (pv 2) (pv 3))) (pa_cons (pv 6) pa_nil)))) (pss_cons (ps_set (i := 8) sc_fitted_line.nd rfl (Or.inl rfl) (x_call D_subtracted (hr.mono (by decide)) rfl (pa_cons (x_call D_whole (hr.mono (by decide)) rfl (pa_cons (pv 3) pa_nil)) (pa_cons (x_call D_multiplied (hr.mono (by decide)) rfl (pa_cons (pv 7) (pa_cons (x_call D_whole (hr.mono (by decide)) rfl (pa_cons (pv 2) pa_nil)) pa_nil))) pa_nil)))) (pss_one (ps_ret (x_tup (pa_cons (pv 7) (pa_cons (x_call D_divided (hr.mono (by decide)) rfl (pa_cons (pv 8) (pa_cons (x_call D_whole (hr.mono (by decide)) rfl (pa_cons (pv 1) pa_nil)) pa_nil))) pa_nil)))))))))))))), ?_⟩
  have S := ok.sums h16
  have B := S.line h16
  have nn := spread_nonneg l
  have hlen : (ps.map V.ref).length = l.length := by rw [List.length_map, hl.1]
  have sk : Sm 3000 (l.length : Int) := sm_of B.kb (by decide)
  have sc : Sm 3000 (l.map fun (p : Int × Int) => p.1).sum := sm_of S.c (by decide)
  have sv : Sm 3000 (l.map fun (p : Int × Int) => p.2).sum := sm_of S.v (by decide)
  have scc : Sm 3000 (l.map fun (p : Int × Int) => p.1 * p.1).sum := sm_of S.cc (by decide)
  have scv : Sm 3000 (l.map fun (p : Int × Int) => p.1 * p.2).sum := sm_of S.cv (by decide)
  refine ⟨_, rfl, l.length, ⟨a, _, rfl, .inl (SqL.of hp), hlen⟩, ?_⟩
  refine ⟨_, rfl, a, rfl, ⟨_, SqL.of hp⟩, fun D1 hD1 => lc_pts (fun p => p.1) hp hl (by omega) hD1 (fun _ => rfl) (fun p c H' Qe hpt _ q => ⟨_, rfl, _, IxT.a hpt, q⟩) (fun H1 s1 e1 => ⟨D1, _, rfl, SqL.of e1, ?_⟩)⟩
  refine ⟨_, rfl, a, rfl, ⟨_, SqL.of (s1 _ _ hp)⟩, fun D2 hD2 => lc_pts (fun p => p.2) (s1 _ _ hp) (hl.same s1) (by omega) hD2 (fun _ => rfl) (fun p c H' Qe hpt _ q => ⟨_, rfl, _, IxT.b hpt, q⟩) (fun H2 s2 e2 => ⟨D2, _, rfl, SqL.of e2, ?_⟩)⟩
  have t2 := s1.trans s2
  refine ⟨_, rfl, a, rfl, ⟨_, SqL.of (t2 _ _ hp)⟩, fun D3 hD3 => lc_pts (fun p => p.1 * p.1) (t2 _ _ hp) (hl.same t2) (by omega) hD3 (fun _ => rfl) (fun p c H' Qe hpt hc q => ⟨_, rfl, _, IxT.a hpt, _, rfl, _, IxT.a hpt, _, _, rfl, rfl, ?_, q⟩) (fun H3 s3 e3 => ⟨D3, _, rfl, SqL.of e3, ?_⟩)⟩
  · obtain ⟨⟨q1, q2⟩, q3, q4⟩ := ok c hc
    exact ⟨sm_of (n := 40) (by omega) (by decide), sm_of (n := 40) (by omega) (by decide)⟩
  have t3 := t2.trans s3
  refine ⟨_, rfl, a, rfl, ⟨_, SqL.of (t3 _ _ hp)⟩, fun D4 hD4 => lc_pts (fun p => p.1 * p.2) (t3 _ _ hp) (hl.same t3) (by omega) hD4 (fun _ => rfl) (fun p c H' Qe hpt hc q => ⟨_, rfl, _, IxT.a hpt, _, rfl, _, IxT.b hpt, _, _, rfl, rfl, ?_, q⟩) (fun H4 s4 e4 => ⟨D4, _, rfl, SqL.of e4, ?_⟩)⟩
  · obtain ⟨⟨q1, q2⟩, q3, q4⟩ := ok c hc
    exact ⟨sm_of (n := 40) (by omega) (by decide), sm_of (n := 40) (by omega) (by decide)⟩
  have t4 := t3.trans s4
  refine ⟨_, rfl, _, rfl, _, _, rfl, rfl, ⟨sk, scc⟩, _, rfl, _, rfl, _, _, rfl, rfl, ⟨sc, sc⟩, _, _, rfl, rfl, ?_⟩
  refine ⟨_, rfl, _, _, rfl, rfl, _, rfl, ifB (fun h1 => ?_) (fun h1 => ?_)⟩
  · have h1 : (l.length : Int) * (l.map fun (p : Int × Int) => p.1 * p.1).sum - (l.map fun (p : Int × Int) => p.1).sum * (l.map fun (p : Int × Int) => p.1).sum = 0 := h1
    exact kn (by rw [nearest_eq, if_pos (by omega)]) H4 t4
  have h1 : ¬ (l.length : Int) * (l.map fun (p : Int × Int) => p.1 * p.1).sum - (l.map fun (p : Int × Int) => p.1).sum * (l.map fun (p : Int × Int) => p.1).sum = 0 := h1
  have en := nearest_eq l
  rw [if_neg (by omega)] at en
  obtain ⟨bs, bo⟩ := line_bound ok h2 h16 en
  have Bd := B.d
  have bv : QB 34 (Vbdlac.whole (l.map fun (p : Int × Int) => p.2).sum) := QB.whole S.v (by decide)
  have bc : QB 20 (Vbdlac.whole (l.map fun (p : Int × Int) => p.1).sum) := QB.whole S.c (by decide)
  have bk : QB 5 (Vbdlac.whole (l.length : Int)) := QB.whole B.kb (by decide)
  refine ⟨_, rfl, _, rfl, _, _, rfl, rfl, ⟨sk, scv⟩, _, rfl, _, rfl, _, _, rfl, rfl, ⟨sc, sv⟩, _, _, rfl, rfl, _, rfl, rfl, (l.length : Int) * (l.map fun (p : Int × Int) => p.1 * p.2).sum - (l.map fun (p : Int × Int) => p.1).sum * (l.map fun (p : Int × Int) => p.2).sum, ((l.length : Int) * (l.map fun (p : Int × Int) => p.1 * p.1).sum - (l.map fun (p : Int × Int) => p.1).sum * (l.map fun (p : Int × Int) => p.1).sum).toNat, ?_, ?_, ?_, fun p6 H6 s6 f6 => ?_⟩
  · rw [Int.toNat_of_nonneg nn]
  · omega
  · exact Nat.lt_of_lt_of_le (show _ < 2 ^ 60 by omega) (pow_le (by decide))
  refine ⟨_, rfl, rfl, (l.map fun (p : Int × Int) => p.2).sum, rfl, fun p7 H7 s7 f7 => ⟨_, rfl, _, rfl, rfl, (l.map fun (p : Int × Int) => p.1).sum, rfl, fun p8 H8 s8 f8 => ⟨rfl, p6, p8, _, _, rfl, (f6.same s7).same s8, f8, bs.mono (by decide), bc.mono (by decide), trivial, fun p9 H9 s9 f9 => ⟨rfl, p7, p9, _, _, rfl, (f7.same s8).same s9, f9, bv.mono (by decide), (bs.mul bc).mono (by decide), trivial, fun p10 H10 s10 f10 => ?_⟩⟩⟩⟩
  have t10 : Same H6 H10 := ((s7.trans s8).trans s9).trans s10
  refine ⟨_, rfl, _, rfl, _, rfl, rfl, (l.length : Int), rfl, fun p11 H11 s11 f11 => ⟨rfl, p10, p11, _, _, rfl, f10.same s11, f11, (bv.sub (bs.mul bc)).mono (by decide), bk.mono (by decide), (by show (0 : Int) < (l.length : Int); omega), fun p12 H12 s12 f12 => ⟨small_len (by simp), fun p13 H13 N13 => ?_⟩⟩⟩
  exact ks _ _ en p13 p6 p12 H13 ((((t4.trans s6).trans t10).trans (s11.trans s12)).trans N13.same) N13.at_ (((f6.same t10).same (s11.trans s12)).same N13.same) (f12.same N13.same) (bs.mono (by decide)) (bo.mono (by decide))
end
section
variable {C : Cs} {H H2 : Hp} {ls : Addr} {as : List SA} {ss : List Sn} {r : Vbdlac.St × List Int} {Q : VK} {l : List Int} {s : Int}
theorem Post.spL (k : Post C H ls r Q) (R : Rep C H ls as ss) (e : r = (⟨ss⟩, l)) : Tw.spL l H Q := by
  subst e
  exact fun p H' s h1 h2 => k as p H' (R.same s) (fun b o _ h _ => s b o h) h2 h1
theorem lst1 (q : spL l H Q) : ∀ p H2, New H p (.lst (l.map V.int)) H2 → Q (.ref p) H2 := fun p H2 N => q p H2 N.same N.fresh N.at_
theorem spL.at (q : spL l H Q) (s : Same H H2) : spL l H2 Q := fun p H3 s3 h1 h2 => q p H3 (s.trans s3) (s.free h1) h2
theorem Post.at (k : Post C H ls r Q) (s : Same H H2) : Post C H2 ls r Q := fun as p H' R h1 h2 h3 => k as p H' R (fun b o n h z => h1 b o n (s b o h) z) h2 (s.free h3)
theorem hasS_iff {n : Nat} : hasS n s = true ↔ 0 ≤ s ∧ s < (n : Int) := by
  unfold hasS
  rw [Bool.and_eq_true, decide_eq_true_eq, decide_eq_true_eq]
theorem Rep.miss (R : Rep C H ls as ss) (h : hasS (as.map fun a => V.ref a.x).length s = false) : Vbdlac.sensorAt ⟨ss⟩ s = none := by
  rw [← Bool.not_eq_true, hasS_iff, List.length_map, R.len] at h
  unfold Vbdlac.sensorAt
  by_cases h0 : 0 ≤ s
  · rw [if_pos h0]
    exact List.getElem?_eq_none (by show ss.length ≤ _; omega)
  · rw [if_neg h0]
theorem Rep.find (R : Rep C H ls as ss) (h : hasS (as.map fun a => V.ref a.x).length s = true) : ∃ (i : Nat) (a : SA) (x : Sn), s = (i : Int) ∧ as[i]? = some a ∧ ss[i]? = some x ∧ SeAt C H a x ∧ (as.map fun a => V.ref a.x)[i]? = some (.ref a.x) := by
  rw [hasS_iff, List.length_map] at h
  obtain ⟨a, ha⟩ := some_at (l := as) (i := s.toNat) (by omega)
  obtain ⟨x, hx⟩ := some_at (l := ss) (i := s.toNat) (by rw [← R.len]; omega)
  exact ⟨s.toNat, a, x, by omega, ha, hx, R.at_ _ a x ha hx, by rw [List.getElem?_map, ha]; rfl⟩
theorem free_foot {a : SA} {x : Sn} (fr : Fr (foot a) H H2) (n : SeAt C H2 a x) : ∀ p, H2 p = none → H p = none := fun p hp => by
  cases q : H p with
  | none => rfl
  | some o =>
    by_cases hf : p ∈ foot a
    · obtain ⟨u, hu⟩ := n.inFoot p hf
      rw [hu] at hp
      cases hp
    · rw [fr p o hf q] at hp
      cases hp
theorem Post.put {i : Nat} {a a' : SA} {x x' : Sn} (k : Post C H ls r Q) (R : Rep C H ls as ss) (ha : as[i]? = some a) (hx : ss[i]? = some x) (e : r = (⟨ss.set i x'⟩, l)) (fr : Fr (foot a) H H2) (n : SeAt C H2 a' x') (ex : a'.x = a.x)
    (hf : ∀ z ∈ foot a', z ∈ foot a ∨ H z = none) (fe : ∀ p, H2 p = none → H p = none) : Tw.spL l H2 Q := by
  subst e
  intro p H3 s hp h3
  exact k (as.set i a') p H3 ((R.put ha hx fr n ex hf).same s) (fun b o _ hb hk => s _ _ (fr.keep (R.at_ i a x ha hx).mutl hb (.inl hk))) h3 (fe p hp)
theorem Post.put1 {i : Nat} {a : SA} {x x' : Sn} (k : Post C H ls r Q) (R : Rep C H ls as ss) (ha : as[i]? = some a) (hx : ss[i]? = some x) (e : r = (⟨ss.set i x'⟩, l)) (fr : Fr (foot a) H H2) (n : SeAt C H2 a x') : Tw.spL l H2 Q :=
  k.put R ha hx e fr n rfl (fun z hz => .inl hz) (free_foot fr n)
end
theorem on_read {ss : List Sn} {i : Nat} {x : Sn} {g : Bool} {f : Sn → Sn × List Int} (hx : ss[i]? = some x) (hg : g = true) (hf : (f x).1 = x) : Vbdlac.on ⟨ss⟩ (i : Int) g f = (⟨ss⟩, (f x).2) := by rw [on_some hx hg, hf, set_same hx]
theorem gap_any (x : Sn) : (match Vbdlac.trusted x.form x.a, Vbdlac.trusted x.form x.b with | some u, some v => [1, Vbdlac.far u v] | _, _ => [0, 0]) = anyL (gapO x) := by
  unfold gapO
  cases Vbdlac.trusted x.form x.a with
  | none => rfl
  | some u => cases Vbdlac.trusted x.form x.b <;> rfl
theorem SeC.pick {K : PySem.W.Frag} {C : Cs} {H : Hp} {a : SA} {dx st l : Addr} {x : Sn} {c : Int} (h : SeC C H a dx st l x) (hc : Vbdlac.within c 0 1 = true) : ∃ p, IxL K H (.ref l) (.int c) (.ref p) ∧ ChAt C H p x.form (Vbdlac.channel x c) ∧ ((c = 0 ∧ p = a.c0) ∨ (c = 1 ∧ p = a.c1)) := by
  rw [within_iff] at hc
  have hc2 : c = 0 ∨ c = 1 := by omega
  rcases hc2 with rfl | rfl
  · exact ⟨a.c0, IxL.k0 h.chs, h.a0, .inl ⟨rfl, rfl⟩⟩
  · exact ⟨a.c1, IxL.k1 h.chs, h.a1, .inr ⟨rfl, rfl⟩⟩
theorem decimal_eq (z : Int) : Vbdlac.decimal z = (Str.ofString (toString z)).cps.toList.map fun (c : Nat) => (c : Int) := by
  rw [Str.ofString_eq_toList]
  show _ = ((toString z).toList.map Char.toNat).map fun (c : Nat) => (c : Int)
  rw [List.map_map]
  rfl
theorem told_eq (a : Fq) : Vbdlac.told a = strL (txtQ a) := by
  have key : ∀ x : Str, Vbdlac.row (x.cps.toList.map fun (c : Nat) => (c : Int)) = strL x := fun x => by
    unfold Vbdlac.row strL
    rw [List.length_map]
    rfl
  unfold Vbdlac.told txtQ
  by_cases h : a.den = 1
  · rw [if_pos h, if_pos h, decimal_eq, key]
  · rw [if_neg h, if_neg h, decimal_eq, decimal_eq, ← key]
    congr 1
    have e1 : ∀ x y : Str, (x ++ y).cps.toList = x.cps.toList ++ y.cps.toList := fun x y => by
      show (x.cps ++ y.cps).toList = _
      rw [Array.toList_append]
    have e2 : (Str.ofString "/").cps.toList = [47] := by
      rw [Str.ofString_eq_toList]
      rfl
    rw [e1, e1, e2, List.map_append, List.map_append, List.append_assoc]
    rfl
theorem txt_len {a : Fq} (h : QB 1000 a) : (txtQ a).length ≤ 4010 := by
  have e1 := len_txt h.nb
  have e2 := len_txt (z := (a.den : Int)) (by rw [Int.natAbs_natCast]; exact h.db)
  have e3 : (Str.ofString "/").length = 1 := by decide +kernel
  unfold txtQ
  split
  · omega
  · rw [PySem.strLen_append, PySem.strLen_append, e3]
    omega
theorem strL_len (x : Str) : (strL x).length = x.length + 1 := by
  unfold strL
  rw [List.length_cons, List.length_map, Array.length_toList]
  rfl
theorem told_len {a : Fq} (h : QB 1000 a) : (Vbdlac.told a).length ≤ 4011 := by
  rw [told_eq, strL_len]
  have := txt_len h
  omega
end Tw
set_option Elab.async false
set_option linter.all false
set_option maxRecDepth 100000
set_option maxHeartbeats 2000000
namespace Tw
open PySem PySem.Spec PyProof.Rows L2 L3
section
variable {P : Program} {w : World} {K : PySem.W.Frag} {mg : Str → Option Value} {base : Heap} {C : Cs}
theorem ok_call_count {f : Addr} {fd : FuncData} (F : Fun K "call_count" "call_count" s_call_count f fd) (T : Txt K mg C)  : FnOk P w K mg base CX0 1 f fd ["sensors", "given", "listed"] (sp_call_count C) := by
  refine F.ok sc_call_count (fun _ _ _ _ h => h.1) (fun cdv A outer s H vs Q E hr h => ?_)
  obtain ⟨-, h⟩ := h
  obtain ⟨ls, g, li, as, ss, ns, c, rfl, R, ok, hg, nl, hc, k⟩ := h
  obtain ⟨rfl, rfl⟩ : ns = [] ∧ c = .count := by
    try dsimp only at hc
    split at hc
    · exact ⟨rfl, (Option.some.inj hc).symm⟩
    · cases hc
  refine ⟨_, (pss_one (ps_ret (x_lst (pa_cons (pe_callB x_callen (by rfl) T.b_len boot_len' (pa_cons (pv 0) pa_nil)) pa_nil)))), ?_⟩
  have q := k.spL R (l := [(ss.length : Int)]) rfl
  refine ⟨_, rfl, ss.length, ⟨ls, _, rfl, .inl (SqL.of R.lst), by rw [List.length_map, R.len]⟩, small_len (by simp), lst1 q⟩
theorem ok_call_reading {f : Addr} {fd : FuncData} (F : Fun K "call_reading" "call_reading" s_call_reading f fd) (T : Txt K mg C) (D_has_sensor : Def P w K mg base "has_sensor" 1 ["sensors", "s"] (sp_has_sensor C)) (D_sensor_answer : Def P w K mg base "sensor_answer" 11 ["sensor"] (sp_sensor_answer C)) : FnOk P w K mg base CX0 12 f fd ["sensors", "given", "listed"] (sp_call_reading C) := by
  refine F.ok sc_call_reading (fun _ _ _ _ h => h.1) (fun cdv A outer s H vs Q E hr h => ?_)
  obtain ⟨-, h⟩ := h
  obtain ⟨ls, g, li, as, ss, ns, c, rfl, R, ok, hg, nl, hc, k⟩ := h
  obtain ⟨s, rfl, rfl⟩ : ∃ s : Int, ns = [s] ∧ c = .reading s := by
    try dsimp only at hc
    split at hc
    · exact ⟨_, rfl, (Option.some.inj hc).symm⟩
    · cases hc
  refine ⟨_, (pss_cons (ps_if (pt_not (pt_val (x_call D_has_sensor (hr.mono (by decide)) rfl (pa_cons (pv 0) (pa_cons (x_ixl (pv 1) pe_int) pa_nil))))) (pss_one (ps_ret (x_lst (pa_cons (x_gc rfl T.c_OUT_OF_RANGE) pa_nil)))) pss_nil) (pss_one (ps_ret (x_call D_sensor_answer (hr.mono (by decide)) rfl (pa_cons (x_ixl (pv 0) (x_ixl (pv 1) pe_int)) pa_nil))))), ?_⟩
  refine ⟨_, rfl, _, rfl, _, IxL.k0 hg, rfl, ls, _, s, rfl, R.lst, _, rfl, ifCN (fun h1 => ⟨small_len (by simp), lst1 (k.spL R (on_none (R.miss h1)))⟩) (fun h1 => ?_)⟩
  obtain ⟨i, a, x, rfl, ha, hx, hS, hv⟩ := R.find h1
  have okx := ok.2 x (List.mem_of_getElem? hx)
  have e : Vbdlac.step ⟨ss⟩ (.reading (i : Int)) = (⟨ss⟩, Vbdlac.face x) := on_read hx rfl rfl
  exact ⟨_, rfl, _, rfl, _, IxL.k0 hg, _, IxL.n R.lst rfl hv, rfl, a, x, rfl, hS, okx, k.spL R e⟩
theorem ok_call_gap {f : Addr} {fd : FuncData} (F : Fun K "call_gap" "call_gap" s_call_gap f fd) (T : Txt K mg C) (D_has_sensor : Def P w K mg base "has_sensor" 1 ["sensors", "s"] (sp_has_sensor C)) (D_number_if_any : Def P w K mg base "number_if_any" 1 ["number"] (sp_number_if_any C)) (D_Sensor_gap_now : MethD P w K mg base C.se "gap_now" 10 ["self"] (sp_Sensor_gap_now C)) : FnOk P w K mg base CX0 11 f fd ["sensors", "given", "listed"] (sp_call_gap C) := by
  refine F.ok sc_call_gap (fun _ _ _ _ h => h.1) (fun cdv A outer s H vs Q E hr h => ?_)
  obtain ⟨-, h⟩ := h
  obtain ⟨ls, g, li, as, ss, ns, c, rfl, R, ok, hg, nl, hc, k⟩ := h
  obtain ⟨s, rfl, rfl⟩ : ∃ s : Int, ns = [s] ∧ c = .gap s := by
    try dsimp only at hc
    split at hc
    · exact ⟨_, rfl, (Option.some.inj hc).symm⟩
    · cases hc
  refine ⟨_, (pss_cons (ps_if (pt_not (pt_val (x_call D_has_sensor (hr.mono (by decide)) rfl (pa_cons (pv 0) (pa_cons (x_ixl (pv 1) pe_int) pa_nil))))) (pss_one (ps_ret (x_lst (pa_cons (x_gc rfl T.c_OUT_OF_RANGE) pa_nil)))) pss_nil) (pss_one (ps_ret (x_call D_number_if_any (hr.mono (by decide)) rfl (pa_cons (x_meth0 (x_ixl (pv 0) (x_ixl (pv 1) pe_int)) D_Sensor_gap_now (hr.mono (by decide))) pa_nil))))), ?_⟩
  refine ⟨_, rfl, _, rfl, _, IxL.k0 hg, rfl, ls, _, s, rfl, R.lst, _, rfl, ifCN (fun h1 => ⟨small_len (by simp), lst1 (k.spL R (on_none (R.miss h1)))⟩) (fun h1 => ?_)⟩
  obtain ⟨i, a, x, rfl, ha, hx, ⟨dx, st, l, hS⟩, hv⟩ := R.find h1
  have okx := ok.2 x (List.mem_of_getElem? hx)
  have e : Vbdlac.step ⟨ss⟩ (.gap (i : Int)) = (⟨ss⟩, anyL (gapO x)) := by
    rw [← gap_any]
    exact on_read hx rfl rfl
  have q := k.spL R e
  exact ⟨_, rfl, _, rfl, _, IxL.k0 hg, _, IxL.n R.lst rfl hv, se_no _ hS.at_, rfl, a, x, rfl, ⟨dx, st, l, hS⟩, okx, fun H2 s2 => ⟨rfl, gapO x, rfl, lst1 (q.at s2)⟩⟩
theorem ok_call_clear {f : Addr} {fd : FuncData} (F : Fun K "call_clear" "call_clear" s_call_clear f fd) (T : Txt K mg C) (D_has_sensor : Def P w K mg base "has_sensor" 1 ["sensors", "s"] (sp_has_sensor C)) (D_Sensor_forget_counts : MethD P w K mg base C.se "forget_counts" 2 ["self"] (sp_Sensor_forget_counts C)) : FnOk P w K mg base CX0 3 f fd ["sensors", "given", "listed"] (sp_call_clear C) := by
  refine F.ok sc_call_clear (fun _ _ _ _ h => h.1) (fun cdv A outer s H vs Q E hr h => ?_)
  obtain ⟨-, h⟩ := h
  obtain ⟨ls, g, li, as, ss, ns, c, rfl, R, ok, hg, nl, hc, k⟩ := h
  obtain ⟨s, rfl, rfl⟩ : ∃ s : Int, ns = [s] ∧ c = .clear s := by
    try dsimp only at hc
    split at hc
    · exact ⟨_, rfl, (Option.some.inj hc).symm⟩
    · cases hc
  refine ⟨_, (pss_cons (ps_if (pt_not (pt_val (x_call D_has_sensor (hr.mono (by decide)) rfl (pa_cons (pv 0) (pa_cons (x_ixl (pv 1) pe_int) pa_nil))))) (pss_one (ps_ret (x_lst (pa_cons (x_gc rfl T.c_OUT_OF_RANGE) pa_nil)))) pss_nil) (pss_cons (ps_expr (x_meth0 (x_ixl (pv 0) (x_ixl (pv 1) pe_int)) D_Sensor_forget_counts (hr.mono (by decide)))) (pss_one (ps_ret (x_lst (pa_cons pe_int pa_nil)))))), ?_⟩
  refine ⟨_, rfl, _, rfl, _, IxL.k0 hg, rfl, ls, _, s, rfl, R.lst, _, rfl, ifCN (fun h1 => ⟨small_len (by simp), lst1 (k.spL R (on_none (R.miss h1)))⟩) (fun h1 => ?_)⟩
  obtain ⟨i, a, x, rfl, ha, hx, ⟨dx, st, l, hS⟩, hv⟩ := R.find h1
  have e : Vbdlac.step ⟨ss⟩ (.clear (i : Int)) = (⟨ss.set i { x with a := clrCh x.a, b := clrCh x.b, unlike := 0 }⟩, [1]) := on_some hx rfl
  exact ⟨_, rfl, _, rfl, _, IxL.k0 hg, _, IxL.n R.lst rfl hv, se_no _ hS.at_, rfl, a, x, rfl, ⟨dx, st, l, hS⟩, fun H2 h2 f2 => ⟨small_len (by simp), lst1 (k.put1 R ha hx e f2 h2)⟩⟩
theorem ok_call_limits {f : Addr} {fd : FuncData} (F : Fun K "call_limits" "call_limits" s_call_limits f fd) (T : Txt K mg C) (D_are_limits : Def P w K mg base "are_limits" 1 ["low", "high", "back"] (sp_are_limits C)) (D_has_sensor : Def P w K mg base "has_sensor" 1 ["sensors", "s"] (sp_has_sensor C)) (D_Sensor_set_limits : MethD P w K mg base C.se "set_limits" 3 ["self", "low", "high", "back"] (sp_Sensor_set_limits C)) : FnOk P w K mg base CX0 4 f fd ["sensors", "given", "listed"] (sp_call_limits C) := by
  refine F.ok sc_call_limits (fun _ _ _ _ h => h.1) (fun cdv A outer s H vs Q E hr h => ?_)
  obtain ⟨-, h⟩ := h
  obtain ⟨ls, g, li, as, ss, ns, c, rfl, R, ok, hg, nl, hc, k⟩ := h
  obtain ⟨s, u, v, z, rfl, rfl⟩ : ∃ s u v z : Int, ns = [s, u, v, z] ∧ c = .limits s u v z := by
    try dsimp only at hc
    split at hc
    · exact ⟨_, _, _, _, rfl, (Option.some.inj hc).symm⟩
    · cases hc
  refine ⟨_, (pss_cons (ps_if (pt_not (PW.pt (pw_and (pt_val (x_call D_has_sensor (hr.mono (by decide)) rfl (pa_cons (pv 0) (pa_cons (x_ixl (pv 1) pe_int) pa_nil)))) (pw_and1 (pt_val (x_call D_are_limits (hr.mono (by decide)) rfl (pa_cons (x_ixl (pv 1) pe_int) (pa_cons (x_ixl (pv 1) pe_int) (pa_cons (x_ixl (pv 1) pe_int) pa_nil))))))))) (pss_one (ps_ret (x_lst (pa_cons (x_gc rfl T.c_OUT_OF_RANGE) pa_nil)))) pss_nil) (pss_cons (ps_expr (x_meth (x_ixl (pv 0) (x_ixl (pv 1) pe_int)) D_Sensor_set_limits (hr.mono (by decide)) (pa_cons (x_ixl (pv 1) pe_int) (pa_cons (x_ixl (pv 1) pe_int) (pa_cons (x_ixl (pv 1) pe_int) pa_nil))))) (pss_one (ps_ret (x_lst (pa_cons pe_int pa_nil)))))), ?_⟩
  refine ⟨_, rfl, _, rfl, _, IxL.k0 hg, rfl, ls, _, s, rfl, R.lst, _, rfl, ifC (fun h1 => ⟨_, rfl, _, IxL.k1 hg, _, rfl, _, IxL.k2 hg, _, rfl, _, IxL.k3 hg, rfl, u, v, z, rfl, _, rfl, ifCN (fun h2 => ⟨small_len (by simp), lst1 (k.spL R (on_bad h2))⟩) (fun h2 => ?_)⟩) (fun h1 => iteT ⟨small_len (by simp), lst1 (k.spL R (on_none (R.miss h1)))⟩)⟩
  obtain ⟨i, a, x, rfl, ha, hx, ⟨dx, st, l, hS⟩, hv⟩ := R.find h1
  have e : Vbdlac.step ⟨ss⟩ (.limits (i : Int) u v z) = (⟨ss.set i { x with limits := some ⟨u, v, z, 0, 0, 0⟩ }⟩, [1]) := on_some hx h2
  refine ⟨_, rfl, _, rfl, _, IxL.k0 hg, _, IxL.n R.lst rfl hv, se_no _ hS.at_, _, rfl, _, IxL.k1 hg, _, rfl, _, IxL.k2 hg, _, rfl, _, IxL.k3 hg, rfl, a, x, u, v, z, rfl, ⟨dx, st, l, hS⟩, fun p H2 np h2 f2 => ⟨small_len (by simp), lst1 (k.put R ha hx e (f2.in1 (foot_x a)) h2 rfl (fun y hy => ?_) (fun y hy => ?_))⟩⟩
  · have hy : y = a.x ∨ y = a.c0 ∨ y = a.c1 ∨ y = p := by simpa [foot] using hy
    rcases hy with rfl | rfl | rfl | rfl
    · exact .inl (foot_x a)
    · exact .inl (foot_0 a)
    · exact .inl (foot_1 a)
    · exact .inr np
  · obtain ⟨dx2, st2, l2, hS2⟩ := h2
    exact f2.free1 (show H2 a.x = some _ from hS2.at_) hy
theorem ok_call_state {f : Addr} {fd : FuncData} (F : Fun K "call_state" "call_state" s_call_state f fd) (T : Txt K mg C) (D_has_sensor : Def P w K mg base "has_sensor" 1 ["sensors", "s"] (sp_has_sensor C)) (D_channel_state : Def P w K mg base "channel_state" 1 ["channel"] (sp_channel_state C)) (D_limits_state : Def P w K mg base "limits_state" 1 ["limits"] (sp_limits_state C)) : FnOk P w K mg base CX0 2 f fd ["sensors", "given", "listed"] (sp_call_state C) := by
  refine F.ok sc_call_state (fun _ _ _ _ h => h.1) (fun cdv A outer s H vs Q E hr h => ?_)
  obtain ⟨-, h⟩ := h
  obtain ⟨ls, g, li, as, ss, ns, c, rfl, R, ok, hg, nl, hc, k⟩ := h
  obtain ⟨s, rfl, rfl⟩ : ∃ s : Int, ns = [s] ∧ c = .state s := by
    try dsimp only at hc
    split at hc
    · exact ⟨_, rfl, (Option.some.inj hc).symm⟩
    · cases hc
  refine ⟨_, (pss_cons (ps_if (pt_not (pt_val (x_call D_has_sensor (hr.mono (by decide)) rfl (pa_cons (pv 0) (pa_cons (x_ixl (pv 1) pe_int) pa_nil))))) (pss_one (ps_ret (x_lst (pa_cons (x_gc rfl T.c_OUT_OF_RANGE) pa_nil)))) pss_nil) (pss_cons (ps_set (i := 3) sc_call_state.nd rfl (Or.inl rfl) (x_ixl (pv 0) (x_ixl (pv 1) pe_int))) (pss_cons (ps_set (i := 4) sc_call_state.nd rfl (Or.inl rfl) (pe_op x_opcat (x_call D_channel_state (hr.mono (by decide)) rfl (pa_cons (x_ixl (x_fld (pv 3)) pe_int) pa_nil)) (x_call D_channel_state (hr.mono (by decide)) rfl (pa_cons (x_ixl (x_fld (pv 3)) pe_int) pa_nil)))) (pss_one (ps_ret (pe_op x_opcat (pe_op x_opcat (pv 4) (x_lst (pa_cons (x_fld (pv 3)) pa_nil))) (x_call D_limits_state (hr.mono (by decide)) rfl (pa_cons (x_fld (pv 3)) pa_nil)))))))), ?_⟩
  refine ⟨_, rfl, _, rfl, _, IxL.k0 hg, rfl, ls, _, s, rfl, R.lst, _, rfl, ifCN (fun h1 => ⟨small_len (by simp), lst1 (k.spL R (on_none (R.miss h1)))⟩) (fun h1 => ?_)⟩
  obtain ⟨i, a, x, rfl, ha, hx, ⟨dx, st, l, hS⟩, hv⟩ := R.find h1
  have okx := ok.2 x (List.mem_of_getElem? hx)
  have e : Vbdlac.step ⟨ss⟩ (.state (i : Int)) = (⟨ss⟩, Vbdlac.channelNumbers x.a ++ (Vbdlac.channelNumbers x.b ++ ((x.unlike : Int) :: Vbdlac.limitNumbers x.limits))) := on_read hx rfl rfl
  have q := k.spL R e
  have la : (Vbdlac.channelNumbers x.a).length ≤ 9 := by
    have := okx.a.wl
    show ([_, _, _] ++ (_ :: x.a.window)).length ≤ 9
    simp
    omega
  have lb : (Vbdlac.channelNumbers x.b).length ≤ 9 := by
    have := okx.b.wl
    show ([_, _, _] ++ (_ :: x.b.window)).length ≤ 9
    simp
    omega
  have ll : (Vbdlac.limitNumbers x.limits).length = 7 := by cases x.limits <;> rfl
  refine ⟨_, rfl, _, rfl, _, IxL.k0 hg, _, IxL.n R.lst rfl hv, ?_⟩
  refine ⟨_, rfl, _, sef_channels T hS.at_, _, IxL.k0 hS.chs, rfl, a.c0, x.form, x.a, rfl, hS.a0, okx.a.wl, fun p1 H1 s1 n1 h1 => ?_⟩
  have hS1 := hS.same s1
  refine ⟨_, rfl, _, sef_channels T hS1.at_, _, IxL.k1 hS1.chs, rfl, a.c1, x.form, x.b, rfl, hS1.a1, okx.b.wl, fun p2 H2 s2 n2 h2 => ⟨p1, p2, _, _, rfl, rfl, s2 _ _ h1, h2, small_len ?_, fun p3 H3 N3 => ?_⟩⟩
  · rw [List.length_map, List.length_map]
    omega
  have t3 : Same H H3 := (s1.trans s2).trans N3.same
  have hS3 := hS.same t3
  refine ⟨_, rfl, _, rfl, _, sef_unlike T hS3.at_, small_len (by simp), fun p4 H4 N4 => ⟨p3, p4, _, _, rfl, rfl, N4.same _ _ N3.at_, N4.at_, small_len ?_, fun p5 H5 N5 => ?_⟩⟩
  · rw [List.length_append, List.length_map, List.length_map]
    show _ + _ + 1 ≤ _
    omega
  have t5 : Same H H5 := (t3.trans N4.same).trans N5.same
  have hS5 := hS.same t5
  refine ⟨_, rfl, _, sef_limits T hS5.at_, rfl, a.L, x.limits, rfl, hS5.lim, fun p6 H6 s6 n6 h6 => ⟨p5, p6, _, _, rfl, rfl, s6 _ _ N5.at_, h6, small_len ?_, fun p7 H7 N7 => ?_⟩⟩
  · rw [List.length_append, List.length_append, List.length_map, List.length_map, List.length_map, ll]
    show _ + _ + 1 + 7 ≤ _
    omega
  · refine q p7 H7 ((t5.trans s6).trans N7.same) ((t5.trans s6).free N7.fresh) ?_
    rw [N7.at_]
    simp [List.map_append, List.append_assoc]
theorem ok_call_exact {f : Addr} {fd : FuncData} (F : Fun K "call_exact" "call_exact" s_call_exact f fd) (T : Txt K mg C) (D_is_count : Def P w K mg base "is_count" 1 ["number"] (sp_is_count C)) (D_has_channel : Def P w K mg base "has_channel" 2 ["sensors", "s", "ch"] (sp_has_channel C)) (D_text_numbers : Def P w K mg base "text_numbers" 1 ["text"] (sp_text_numbers C)) (D_ratio_text : Def P w K mg base "ratio_text" 1 ["a"] (sp_ratio_text C)) (D_Channel_exact_value : MethD P w K mg base C.ch "exact_value" 6 ["self", "count"] (sp_Channel_exact_value C)) : FnOk P w K mg base CX0 7 f fd ["sensors", "given", "listed"] (sp_call_exact C) := by
  refine F.ok sc_call_exact (fun _ _ _ _ h => h.1) (fun cdv A outer s H vs Q E hr h => ?_)
  obtain ⟨-, h⟩ := h
  obtain ⟨ls, g, li, as, ss, ns, c, rfl, R, ok, hg, nl, hc, k⟩ := h
  obtain ⟨s, ch, n, rfl, rfl⟩ : ∃ s ch n : Int, ns = [s, ch, n] ∧ c = .exact s ch n := by
    try dsimp only at hc
    split at hc
    · exact ⟨_, _, _, rfl, (Option.some.inj hc).symm⟩
    · cases hc
  refine ⟨_, (pss_cons (ps_if (pt_not (PW.pt (pw_and (pt_val (x_call D_has_channel (hr.mono (by decide)) rfl (pa_cons (pv 0) (pa_cons (x_ixl (pv 1) pe_int) (pa_cons (x_ixl (pv 1) pe_int) pa_nil))))) (pw_and1 (pt_val (x_call D_is_count (hr.mono (by decide)) rfl (pa_cons (x_ixl (pv 1) pe_int) pa_nil))))))) (pss_one (ps_ret (x_lst (pa_cons (x_gc rfl T.c_OUT_OF_RANGE) pa_nil)))) pss_nil) (pss_cons (ps_set (i := 3) sc_call_exact.nd rfl (Or.inl rfl) (x_ixl (x_fld (x_ixl (pv 0) (x_ixl (pv 1) pe_int))) (x_ixl (pv 1) pe_int))) (pss_one (ps_ret (x_call D_text_numbers (hr.mono (by decide)) rfl (pa_cons (x_call D_ratio_text (hr.mono (by decide)) rfl (pa_cons (x_meth (pv 3) D_Channel_exact_value (hr.mono (by decide)) (pa_cons (x_ixl (pv 1) pe_int) pa_nil)) pa_nil)) pa_nil)))))), ?_⟩
  refine ⟨_, rfl, _, rfl, _, IxL.k0 hg, _, rfl, _, IxL.k1 hg, rfl, ls, _, s, ch, rfl, R.lst, _, rfl, ifC (fun h1 => ⟨_, rfl, _, IxL.k2 hg, rfl, n, rfl, _, rfl, ifCN (fun h2 => ⟨small_len (by simp), lst1 (k.spL R (on_bad (by rw [h2, Bool.and_false])))⟩) (fun h2 => ?_)⟩) (fun h1 => iteT ⟨small_len (by simp), lst1 (k.spL R (l := [-1]) ?_)⟩)⟩
  · rw [Bool.and_eq_true] at h1
    obtain ⟨i, a, x, rfl, ha, hx, ⟨dx, st, l, hS⟩, hv⟩ := R.find h1.1
    have okx := ok.2 x (List.mem_of_getElem? hx)
    obtain ⟨p, hp1, hp2, hp3⟩ := hS.pick (K := K) h1.2
    have e : Vbdlac.step ⟨ss⟩ (.exact (i : Int) ch n) = (⟨ss⟩, Vbdlac.told (Vbdlac.exact x.form (Vbdlac.channel x ch) n)) := on_read hx (by rw [h1.2, h2]; rfl) rfl
    have q := k.spL R e
    rw [told_eq] at q
    have okc := channel_ok okx ch
    have hn : Cnt n := count_mk h2
    have b := (exact_bound okx.f okc hn).mono (show 130 ≤ 1000 by decide)
    obtain ⟨dc, sc, gc, oc, wc, hcc⟩ := hp2
    refine ⟨_, rfl, _, rfl, _, IxL.k0 hg, _, IxL.n R.lst rfl hv, _, sef_channels T hS.at_, _, rfl, _, IxL.k1 hg, _, hp1, ?_⟩
    exact ⟨_, rfl, ch_no _ hcc.at_, _, rfl, _, IxL.k2 hg, rfl, p, n, x.form, _, rfl, ⟨dc, sc, gc, oc, wc, hcc⟩, okx.f, okc, hn, fun p2 H2 s2 f2 => ⟨rfl, p2, _, rfl, f2, b, rfl, _, rfl, Nat.le_trans (txt_len b) (by decide), q.at s2⟩⟩
  · rw [Bool.and_eq_false_iff] at h1
    rcases h1 with h1 | h1
    · exact on_none (R.miss h1)
    · exact on_bad (by rw [h1, Bool.false_and])
theorem ok_call_value {f : Addr} {fd : FuncData} (F : Fun K "call_value" "call_value" s_call_value f fd) (T : Txt K mg C) (D_is_count : Def P w K mg base "is_count" 1 ["number"] (sp_is_count C)) (D_has_channel : Def P w K mg base "has_channel" 2 ["sensors", "s", "ch"] (sp_has_channel C)) (D_Channel_whole_value : MethD P w K mg base C.ch "whole_value" 7 ["self", "count"] (sp_Channel_whole_value C)) : FnOk P w K mg base CX0 8 f fd ["sensors", "given", "listed"] (sp_call_value C) := by
  refine F.ok sc_call_value (fun _ _ _ _ h => h.1) (fun cdv A outer s H vs Q E hr h => ?_)
  obtain ⟨-, h⟩ := h
  obtain ⟨ls, g, li, as, ss, ns, c, rfl, R, ok, hg, nl, hc, k⟩ := h
  obtain ⟨s, ch, n, rfl, rfl⟩ : ∃ s ch n : Int, ns = [s, ch, n] ∧ c = .value s ch n := by
    try dsimp only at hc
    split at hc
    · exact ⟨_, _, _, rfl, (Option.some.inj hc).symm⟩
    · cases hc
  refine ⟨_, (pss_cons (ps_if (pt_not (PW.pt (pw_and (pt_val (x_call D_has_channel (hr.mono (by decide)) rfl (pa_cons (pv 0) (pa_cons (x_ixl (pv 1) pe_int) (pa_cons (x_ixl (pv 1) pe_int) pa_nil))))) (pw_and1 (pt_val (x_call D_is_count (hr.mono (by decide)) rfl (pa_cons (x_ixl (pv 1) pe_int) pa_nil))))))) (pss_one (ps_ret (x_lst (pa_cons (x_gc rfl T.c_OUT_OF_RANGE) pa_nil)))) pss_nil) (pss_cons (ps_set (i := 3) sc_call_value.nd rfl (Or.inl rfl) (x_ixl (x_fld (x_ixl (pv 0) (x_ixl (pv 1) pe_int))) (x_ixl (pv 1) pe_int))) (pss_one (ps_ret (x_lst (pa_cons pe_int (pa_cons (x_meth (pv 3) D_Channel_whole_value (hr.mono (by decide)) (pa_cons (x_ixl (pv 1) pe_int) pa_nil)) pa_nil))))))), ?_⟩
  refine ⟨_, rfl, _, rfl, _, IxL.k0 hg, _, rfl, _, IxL.k1 hg, rfl, ls, _, s, ch, rfl, R.lst, _, rfl, ifC (fun h1 => ⟨_, rfl, _, IxL.k2 hg, rfl, n, rfl, _, rfl, ifCN (fun h2 => ⟨small_len (by simp), lst1 (k.spL R (on_bad (by rw [h2, Bool.and_false])))⟩) (fun h2 => ?_)⟩) (fun h1 => iteT ⟨small_len (by simp), lst1 (k.spL R (l := [-1]) ?_)⟩)⟩
  · rw [Bool.and_eq_true] at h1
    obtain ⟨i, a, x, rfl, ha, hx, ⟨dx, st, l, hS⟩, hv⟩ := R.find h1.1
    have okx := ok.2 x (List.mem_of_getElem? hx)
    obtain ⟨p, hp1, hp2, hp3⟩ := hS.pick (K := K) h1.2
    have e : Vbdlac.step ⟨ss⟩ (.value (i : Int) ch n) = (⟨ss⟩, [0, Vbdlac.value x.form (Vbdlac.channel x ch) n]) := on_read hx (by rw [h1.2, h2]; rfl) rfl
    have q := k.spL R e
    have okc := channel_ok okx ch
    have hn : Cnt n := count_mk h2
    obtain ⟨dc, sc, gc, oc, wc, hcc⟩ := hp2
    refine ⟨_, rfl, _, rfl, _, IxL.k0 hg, _, IxL.n R.lst rfl hv, _, sef_channels T hS.at_, _, rfl, _, IxL.k1 hg, _, hp1, ?_⟩
    exact ⟨_, rfl, ch_no _ hcc.at_, _, rfl, _, IxL.k2 hg, rfl, p, n, x.form, _, rfl, ⟨dc, sc, gc, oc, wc, hcc⟩, okx.f, okc, hn, fun H2 s2 => ⟨small_len (by simp), lst1 (q.at s2)⟩⟩
  · rw [Bool.and_eq_false_iff] at h1
    rcases h1 with h1 | h1
    · exact on_none (R.miss h1)
    · exact on_bad (by rw [h1, Bool.false_and])
theorem ok_call_drift {f : Addr} {fd : FuncData} (F : Fun K "call_drift" "call_drift" s_call_drift f fd) (T : Txt K mg C) (D_has_channel : Def P w K mg base "has_channel" 2 ["sensors", "s", "ch"] (sp_has_channel C)) (D_text_numbers : Def P w K mg base "text_numbers" 1 ["text"] (sp_text_numbers C)) (D_ratio_text : Def P w K mg base "ratio_text" 1 ["a"] (sp_ratio_text C)) : FnOk P w K mg base CX0 3 f fd ["sensors", "given", "listed"] (sp_call_drift C) := by
  refine F.ok sc_call_drift (fun _ _ _ _ h => h.1) (fun cdv A outer s H vs Q E hr h => ?_)
  obtain ⟨-, h⟩ := h
  obtain ⟨ls, g, li, as, ss, ns, c, rfl, R, ok, hg, nl, hc, k⟩ := h
  obtain ⟨s, ch, rfl, rfl⟩ : ∃ s ch : Int, ns = [s, ch] ∧ c = .drift s ch := by
    try dsimp only at hc
    split at hc
    · exact ⟨_, _, rfl, (Option.some.inj hc).symm⟩
    · cases hc
  refine ⟨_, (pss_cons (ps_if (pt_not (pt_val (x_call D_has_channel (hr.mono (by decide)) rfl (pa_cons (pv 0) (pa_cons (x_ixl (pv 1) pe_int) (pa_cons (x_ixl (pv 1) pe_int) pa_nil)))))) (pss_one (ps_ret (x_lst (pa_cons (x_gc rfl T.c_OUT_OF_RANGE) pa_nil)))) pss_nil) (pss_cons (ps_set (i := 3) sc_call_drift.nd rfl (Or.inl rfl) (x_ixl (x_fld (x_ixl (pv 0) (x_ixl (pv 1) pe_int))) (x_ixl (pv 1) pe_int))) (pss_one (ps_ret (pe_op x_opcat (x_call D_text_numbers (hr.mono (by decide)) rfl (pa_cons (x_call D_ratio_text (hr.mono (by decide)) rfl (pa_cons (x_fld (pv 3)) pa_nil)) pa_nil)) (x_call D_text_numbers (hr.mono (by decide)) rfl (pa_cons (x_call D_ratio_text (hr.mono (by decide)) rfl (pa_cons (x_fld (pv 3)) pa_nil)) pa_nil))))))), ?_⟩
  refine ⟨_, rfl, _, rfl, _, IxL.k0 hg, _, rfl, _, IxL.k1 hg, rfl, ls, _, s, ch, rfl, R.lst, _, rfl, ifCN (fun h1 => ⟨small_len (by simp), lst1 (k.spL R (l := [-1]) ?_)⟩) (fun h1 => ?_)⟩
  · rw [Bool.and_eq_false_iff] at h1
    rcases h1 with h1 | h1
    · exact on_none (R.miss h1)
    · exact on_bad h1
  · rw [Bool.and_eq_true] at h1
    obtain ⟨i, a, x, rfl, ha, hx, ⟨dx, st, l, hS⟩, hv⟩ := R.find h1.1
    have okx := ok.2 x (List.mem_of_getElem? hx)
    obtain ⟨p, hp1, hp2, hp3⟩ := hS.pick (K := K) h1.2
    have e : Vbdlac.step ⟨ss⟩ (.drift (i : Int) ch) = (⟨ss⟩, Vbdlac.told (Vbdlac.channel x ch).gain ++ Vbdlac.told (Vbdlac.channel x ch).offset) := on_read hx h1.2 rfl
    have q := k.spL R e
    rw [told_eq, told_eq] at q
    have okc := channel_ok okx ch
    have bg := okc.g.mono (show 40 ≤ 1000 by decide)
    have bo := okc.o.mono (show 40 ≤ 1000 by decide)
    have tg := txt_len bg
    have to := txt_len bo
    obtain ⟨dc, sc, gc, oc, wc, hcc⟩ := hp2
    refine ⟨_, rfl, _, rfl, _, IxL.k0 hg, _, IxL.n R.lst rfl hv, _, sef_channels T hS.at_, _, rfl, _, IxL.k1 hg, _, hp1, ?_⟩
    refine ⟨_, rfl, _, chf_gain T hcc.at_, rfl, gc, _, rfl, hcc.ga, bg, rfl, _, rfl, Nat.le_trans tg (by decide), fun p2 H2 s2 n2 h2 => ?_⟩
    have hc2 := hcc.same s2
    refine ⟨_, rfl, _, chf_offset T hc2.at_, rfl, oc, _, rfl, hc2.off, bo, rfl, _, rfl, Nat.le_trans to (by decide), fun p3 H3 s3 n3 h3 => ⟨p2, p3, _, _, rfl, rfl, s3 _ _ h2, h3, small_len ?_, fun p4 H4 N4 => ?_⟩⟩
    · rw [List.length_map, List.length_map, strL_len, strL_len]
      omega
    · refine q p4 H4 ((s2.trans s3).trans N4.same) ((s2.trans s3).free N4.fresh) ?_
      rw [N4.at_, List.map_append]
theorem ok_call_least {f : Addr} {fd : FuncData} (F : Fun K "call_least" "call_least" s_call_least f fd) (T : Txt K mg C) (D_can_search : Def P w K mg base "can_search" 2 ["n", "k", "v"] (sp_can_search C)) (D_has_channel : Def P w K mg base "has_channel" 2 ["sensors", "s", "ch"] (sp_has_channel C)) (D_Channel_least_reaching : MethD P w K mg base C.ch "least_reaching" 8 ["self", "first", "beyond", "wanted"] (sp_Channel_least_reaching C)) : FnOk P w K mg base CX0 9 f fd ["sensors", "given", "listed"] (sp_call_least C) := by
  refine F.ok sc_call_least (fun _ _ _ _ h => h.1) (fun cdv A outer s H vs Q E hr h => ?_)
  obtain ⟨-, h⟩ := h
  obtain ⟨ls, g, li, as, ss, ns, c, rfl, R, ok, hg, nl, hc, k⟩ := h
  obtain ⟨s, ch, n, m, v, rfl, rfl⟩ : ∃ s ch n m v : Int, ns = [s, ch, n, m, v] ∧ c = .least s ch n m v := by
    try dsimp only at hc
    split at hc
    · exact ⟨_, _, _, _, _, rfl, (Option.some.inj hc).symm⟩
    · cases hc
  refine ⟨_, (pss_cons (ps_if (pt_not (PW.pt (pw_and (pt_val (x_call D_has_channel (hr.mono (by decide)) rfl (pa_cons (pv 0) (pa_cons (x_ixl (pv 1) pe_int) (pa_cons (x_ixl (pv 1) pe_int) pa_nil))))) (pw_and1 (pt_val (x_call D_can_search (hr.mono (by decide)) rfl (pa_cons (x_ixl (pv 1) pe_int) (pa_cons (x_ixl (pv 1) pe_int) (pa_cons (x_ixl (pv 1) pe_int) pa_nil))))))))) (pss_one (ps_ret (x_lst (pa_cons (x_gc rfl T.c_OUT_OF_RANGE) pa_nil)))) pss_nil) (pss_cons (ps_set (i := 3) sc_call_least.nd rfl (Or.inl rfl) (x_ixl (x_fld (x_ixl (pv 0) (x_ixl (pv 1) pe_int))) (x_ixl (pv 1) pe_int))) (pss_cons (ps_set (i := 4) sc_call_least.nd rfl (Or.inl rfl) (pe_op op_add (x_ixl (pv 1) pe_int) (x_ixl (pv 1) pe_int))) (pss_cons (ps_set (i := 5) sc_call_least.nd rfl (Or.inl rfl) (x_meth (pv 3) D_Channel_least_reaching (hr.mono (by decide)) (pa_cons (x_ixl (pv 1) pe_int) (pa_cons (pv 4) (pa_cons (x_ixl (pv 1) pe_int) pa_nil))))) (pss_one (ps_ret (x_lst (pa_cons (pe_ifExp (pt_cmpR x_opeq (pv 5) (pv 4) (nomark _)) pe_int (pe_op op_add (pv 5) pe_int)) pa_nil)))))))), ?_⟩
  refine ⟨_, rfl, _, rfl, _, IxL.k0 hg, _, rfl, _, IxL.k1 hg, rfl, ls, _, s, ch, rfl, R.lst, _, rfl, ifC (fun h1 => ⟨_, rfl, _, IxL.k2 hg, _, rfl, _, IxL.k3 hg, _, rfl, _, IxL.k4 hg, rfl, n, m, v, rfl, _, rfl, ifCN (fun h2 => ⟨small_len (by simp), lst1 (k.spL R (on_bad (by rw [h2, Bool.and_false])))⟩) (fun h2 => ?_)⟩) (fun h1 => iteT ⟨small_len (by simp), lst1 (k.spL R (l := [-1]) ?_)⟩)⟩
  · rw [Bool.and_eq_true] at h1
    obtain ⟨i, a, x, rfl, ha, hx, ⟨dx, st, l, hS⟩, hv⟩ := R.find h1.1
    have okx := ok.2 x (List.mem_of_getElem? hx)
    obtain ⟨p, hp1, hp2, hp3⟩ := hS.pick (K := K) h1.2
    have e : Vbdlac.step ⟨ss⟩ (.least (i : Int) ch n m v) = (⟨ss⟩, [match Vbdlac.leastFrom x.form (Vbdlac.channel x ch) v n.toNat m.toNat with | none => 0 | some i => (i : Int) + 1]) := on_read hx (by rw [h1.2, h2]; rfl) rfl
    have q := k.spL R e
    have okc := channel_ok okx ch
    simp only [Bool.and_eq_true, decide_eq_true_eq, isCount_iff, within_iff, TOP_eq] at h2
    obtain ⟨hn, hm, hnm, -⟩ := h2
    have hnm : n + m ≤ 65535 + 1 := of_decide_eq_true hnm
    obtain ⟨nn, rfl⟩ : ∃ nn : Nat, n = (nn : Int) := ⟨n.toNat, by omega⟩
    obtain ⟨mm, rfl⟩ : ∃ mm : Nat, m = (mm : Int) := ⟨m.toNat, by omega⟩
    obtain ⟨dc, sc, gc, oc, wc, hcc⟩ := hp2
    refine ⟨_, rfl, _, rfl, _, IxL.k0 hg, _, IxL.n R.lst rfl hv, _, sef_channels T hS.at_, _, rfl, _, IxL.k1 hg, _, hp1, ?_⟩
    refine ⟨_, rfl, _, IxL.k2 hg, _, rfl, _, IxL.k3 hg, _, _, rfl, rfl, ?_⟩
    refine ⟨_, rfl, ch_no _ hcc.at_, _, rfl, _, IxL.k2 hg, _, rfl, _, rfl, _, IxL.k4 hg, rfl, p, nn, nn + mm, v, x.form, _, (by rw [Int.natCast_add]), ⟨dc, sc, gc, oc, wc, hcc⟩, okx.f, okc, by omega, by omega, fun L H2 s2 l1 l2 l3 l4 => ?_⟩
    have el := least_eq x.form (Vbdlac.channel x ch) v mm nn L l1 l2 l3 l4
    rw [Int.toNat_natCast, Int.toNat_natCast, el] at q
    refine ⟨_, rfl, _, rfl, _, _, rfl, rfl, _, rfl, ifB (fun h3 => ?_) (fun h3 => ⟨_, rfl, _, _, rfl, rfl, ?_⟩)⟩
    · have h3 : (L : Int) = (nn : Int) + (mm : Int) := h3
      rw [if_pos (by omega)] at q
      exact ⟨small_len (by simp), lst1 (q.at s2)⟩
    · have h3 : ¬ (L : Int) = (nn : Int) + (mm : Int) := h3
      rw [if_neg (by omega)] at q
      exact ⟨small_len (by simp), lst1 (q.at s2)⟩
  · rw [Bool.and_eq_false_iff] at h1
    rcases h1 with h1 | h1
    · exact on_none (R.miss h1)
    · exact on_bad (by rw [h1, Bool.false_and])
theorem ok_call_middle {f : Addr} {fd : FuncData} (F : Fun K "call_middle" "call_middle" s_call_middle f fd) (T : Txt K mg C) (D_are_values : Def P w K mg base "are_values" 2 ["numbers"] (sp_are_values C)) (D_middle_one : Def P w K mg base "middle_one" 1 ["numbers"] (sp_middle_one C)) : FnOk P w K mg base CX0 3 f fd ["sensors", "given", "numbers"] (sp_call_middle C) := by
  refine F.ok sc_call_middle (fun _ _ _ _ h => h.1) (fun cdv A outer s H vs Q E hr h => ?_)
  obtain ⟨-, h⟩ := h
  obtain ⟨ls, g, li, as, ss, ns, c, rfl, R, ok, hg, nl, ⟨l, rfl, hL, rfl⟩, k⟩ := h
  refine ⟨_, (pss_cons (ps_if (pt_not (PW.pt (pw_and (pt_chain op_le op_le pe_int (pe_callB x_callen (by rfl) T.b_len boot_len' (pa_cons (pv 2) pa_nil)) pe_int) (pw_and1 (pt_val (x_call D_are_values (hr.mono (by decide)) rfl (pa_cons (pv 2) pa_nil))))))) (pss_one (ps_ret (x_lst (pa_cons (x_gc rfl T.c_OUT_OF_RANGE) pa_nil)))) pss_nil) (pss_one (ps_ret (x_lst (pa_cons pe_int (pa_cons (x_call D_middle_one (hr.mono (by decide)) rfl (pa_cons (pv 2) pa_nil)) pa_nil)))))), ?_⟩
  have est : Vbdlac.step ⟨ss⟩ (.middle l) = if (decide (1 ≤ l.length) && (decide (l.length ≤ 16) && l.all Vbdlac.isValue)) = false then (⟨ss⟩, [-1]) else (⟨ss⟩, [0, (Vbdlac.middle l).getD 0]) := rfl
  have no : (decide (1 ≤ l.length) && (decide (l.length ≤ 16) && l.all Vbdlac.isValue)) = false → spL [-1] H Q := fun hz => k.spL R (by rw [est, if_pos hz])
  refine ⟨_, rfl, l.length, ⟨li, _, rfl, .inl (SqL.of hL), List.length_map ..⟩, _, _, rfl, rfl, _, rfl, ifB (fun h1 => ⟨_, _, rfl, rfl, _, rfl, ifB (fun h2 => ⟨_, rfl, rfl, li, l, rfl, hL, _, rfl, ifCN (fun h3 => ⟨small_len (by simp), lst1 (no (by rw [h3, Bool.and_false, Bool.and_false]))⟩) (fun h3 => ?_)⟩) (fun h2 => iteT ⟨small_len (by simp), lst1 (no ?_)⟩)⟩) (fun h1 => ⟨_, rfl, iteF (iteT ⟨small_len (by simp), lst1 (no ?_)⟩)⟩)⟩
  · have h1 : (1 : Int) ≤ (l.length : Int) := h1
    have h2 : (l.length : Int) ≤ 16 := h2
    obtain ⟨m, hm, _⟩ := middle_some (show 0 < l.length by omega)
    have q : spL [0, m] H Q := k.spL R (by rw [est, if_neg (by rw [h3, decide_eq_true (show 1 ≤ l.length by omega), decide_eq_true (show l.length ≤ 16 by omega)]; decide), hm]; rfl)
    exact ⟨_, rfl, rfl, li, l, m, rfl, hL, by omega, hm, fun H2 s2 => ⟨small_len (by simp), lst1 (q.at s2)⟩⟩
  · have h2 : ¬ (l.length : Int) ≤ 16 := h2
    rw [decide_eq_false (show ¬ l.length ≤ 16 by omega), Bool.false_and, Bool.and_false]
  · have h1 : ¬ (1 : Int) ≤ (l.length : Int) := h1
    rw [decide_eq_false (show ¬ 1 ≤ l.length by omega), Bool.false_and]
theorem ok_call_line {f : Addr} {fd : FuncData} (F : Fun K "call_line" "call_line" s_call_line f fd) (T : Txt K mg C) (D_are_points : Def P w K mg base "are_points" 2 ["pairs"] (sp_are_points C)) (D_fitted_line : Def P w K mg base "fitted_line" 4 ["points"] (sp_fitted_line C)) (D_text_numbers : Def P w K mg base "text_numbers" 1 ["text"] (sp_text_numbers C)) (D_ratio_text : Def P w K mg base "ratio_text" 1 ["a"] (sp_ratio_text C)) : FnOk P w K mg base CX0 5 f fd ["sensors", "given", "pairs"] (sp_call_line C) := by
  refine F.ok sc_call_line (fun _ _ _ _ h => h.1) (fun cdv A outer s H vs Q E hr h => ?_)
  obtain ⟨-, h⟩ := h
  obtain ⟨ls, g, li, as, ss, ns, c, rfl, R, ok, hg, nl, ⟨l0, rfl, hL, rfl⟩, k⟩ := h
  refine ⟨_, (pss_cons (ps_if (pt_not (PW.pt (pw_and (pt_chain op_le op_le pe_int (pe_callB x_callen (by rfl) T.b_len boot_len' (pa_cons (pv 2) pa_nil)) pe_int) (pw_and1 (pt_val (x_call D_are_points (hr.mono (by decide)) rfl (pa_cons (pv 2) pa_nil))))))) (pss_one (ps_ret (x_lst (pa_cons (x_gc rfl T.c_OUT_OF_RANGE) pa_nil)))) pss_nil) (pss_cons (ps_set (i := 3) sc_call_line.nd rfl (Or.inl rfl) (x_call D_fitted_line (hr.mono (by decide)) rfl (pa_cons (pv 2) pa_nil))) (pss_cons (ps_if (pt_cmpR op_isN (pv 3) pe_non (nomark _)) (pss_one (ps_ret (x_lst (pa_cons (x_gc rfl T.c_NO_LINE) pa_nil)))) pss_nil) (pss_one (ps_ret (pe_op x_opcat (x_call D_text_numbers (hr.mono (by decide)) rfl (pa_cons (x_call D_ratio_text (hr.mono (by decide)) rfl (pa_cons (x_ixt (pv 3) pe_int) pa_nil)) pa_nil)) (x_call D_text_numbers (hr.mono (by decide)) rfl (pa_cons (x_call D_ratio_text (hr.mono (by decide)) rfl (pa_cons (x_ixt (pv 3) pe_int) pa_nil)) pa_nil)))))))), ?_⟩
  obtain ⟨ps, hp, hl⟩ := hL
  have est : Vbdlac.step ⟨ss⟩ (.line l0) = if (decide (2 ≤ (Vbdlac.pairsOf l0).length) && (decide ((Vbdlac.pairsOf l0).length ≤ 16) && (Vbdlac.pairsOf l0).all fun p => Vbdlac.isCount p.1 && Vbdlac.isValue p.2)) = false then (⟨ss⟩, [-1]) else match Vbdlac.nearestLine (Vbdlac.pairsOf l0) with | none => (⟨ss⟩, [-7]) | some (a, b) => (⟨ss⟩, Vbdlac.told a ++ Vbdlac.told b) := rfl
  generalize Vbdlac.pairsOf l0 = l at est hl
  have hlen : (ps.map V.ref).length = l.length := by rw [List.length_map, hl.1]
  have no : (decide (2 ≤ l.length) && (decide (l.length ≤ 16) && l.all fun p => Vbdlac.isCount p.1 && Vbdlac.isValue p.2)) = false → spL [-1] H Q := fun hz => k.spL R (by rw [est, if_pos hz])
  refine ⟨_, rfl, l.length, ⟨li, _, rfl, .inl (SqL.of hp), hlen⟩, _, _, rfl, rfl, _, rfl, ifB (fun h1 => ⟨_, _, rfl, rfl, _, rfl, ifB (fun h2 => ⟨_, rfl, rfl, li, l, rfl, ⟨ps, hp, hl⟩, _, rfl, ifCN (fun h3 => ⟨small_len (by simp), lst1 (no (by rw [h3, Bool.and_false, Bool.and_false]))⟩) (fun h3 => ?_)⟩) (fun h2 => iteT ⟨small_len (by simp), lst1 (no ?_)⟩)⟩) (fun h1 => ⟨_, rfl, iteF (iteT ⟨small_len (by simp), lst1 (no ?_)⟩)⟩)⟩
  · have h1 : (2 : Int) ≤ (l.length : Int) := h1
    have h2 : (l.length : Int) ≤ 16 := h2
    rw [if_neg (by rw [h3, decide_eq_true (show 2 ≤ l.length by omega), decide_eq_true (show l.length ≤ 16 by omega)]; decide)] at est
    refine ⟨_, rfl, rfl, li, l, rfl, ⟨ps, hp, hl⟩, by omega, by omega, pts_ok h3, fun en H2 s2 => ?_, fun so oo en p1 p2 p3 H2 s2 hp1 hs ho bs bo => ?_⟩
    · rw [en] at est
      exact ⟨_, rfl, rfl, _, rfl, iteT ⟨small_len (by simp), lst1 ((k.spL R est).at s2)⟩⟩
    · rw [en] at est
      have q := k.spL R est
      rw [told_eq, told_eq] at q
      have tg := txt_len bs
      have to := txt_len bo
      refine ⟨_, rfl, rfl, _, rfl, iteF ⟨_, rfl, _, IxT.a hp1, rfl, p2, _, rfl, hs, bs, rfl, _, rfl, Nat.le_trans tg (by decide), fun p4 H4 s4 n4 h4 => ⟨_, rfl, _, IxT.b (s4 _ _ hp1), rfl, p3, _, rfl, ho.same s4, bo, rfl, _, rfl, Nat.le_trans to (by decide), fun p5 H5 s5 n5 h5 => ⟨p4, p5, _, _, rfl, rfl, s5 _ _ h4, h5, small_len ?_, fun p6 H6 N6 => ?_⟩⟩⟩⟩
      · rw [List.length_map, List.length_map, strL_len, strL_len]
        omega
      · refine q p6 H6 (((s2.trans s4).trans s5).trans N6.same) (((s2.trans s4).trans s5).free N6.fresh) ?_
        rw [N6.at_, List.map_append]
  · have h2 : ¬ (l.length : Int) ≤ 16 := h2
    rw [decide_eq_false (show ¬ l.length ≤ 16 by omega), Bool.false_and, Bool.and_false]
  · have h1 : ¬ (2 : Int) ≤ (l.length : Int) := h1
    rw [decide_eq_false (show ¬ 2 ≤ l.length by omega), Bool.false_and]
end
end Tw
set_option Elab.async false
set_option linter.all false
set_option maxRecDepth 100000
set_option maxHeartbeats 2000000
namespace Tw
open PySem PySem.Spec PyProof.Rows L2 L3
theorem samples_snoc : ∀ (l : List (Int × Int)) (s : Sn) (c : Int × Int), Vbdlac.samples s (l ++ [c]) = Vbdlac.sample (Vbdlac.samples s l) c.1 c.2
  | [], s, c => rfl
  | p :: l, s, c => samples_snoc l (Vbdlac.sample s p.1 p.2) c
theorem pairs_all_eq {g : Int → Bool} : ∀ {l : List Int}, l.length % 2 = 0 → ((Vbdlac.pairsOf l).all fun p => g p.1 && g p.2) = l.all g
  | [], _ => rfl
  | [_], h => by simp at h
  | a :: b :: l, h => by
    have ih := pairs_all_eq (g := g) (l := l) (by simp at h; omega)
    show ((g a && g b) && ((Vbdlac.pairsOf l).all fun p => g p.1 && g p.2)) = (g a && (g b && l.all g))
    rw [ih, Bool.and_assoc]
theorem feeds_good {l : List Int} (h : l.length % 2 = 0) : (decide (l.length ≤ 200) && l.all Vbdlac.isCount) = (decide ((Vbdlac.pairsOf l).length ≤ 100) && (Vbdlac.pairsOf l).all fun p => Vbdlac.isCount p.1 && Vbdlac.isCount p.2) := by
  rw [pairs_all_eq h, pairs_len]
  congr 1
  apply Bool.eq_iff_iff.mpr
  rw [decide_eq_true_eq, decide_eq_true_eq]
  omega
theorem step_feeds (ss : List Sn) (s : Int) {l : List Int} (h : l.length % 2 = 0) : Vbdlac.step ⟨ss⟩ (.feeds s l) = Vbdlac.on ⟨ss⟩ s (decide ((Vbdlac.pairsOf l).length ≤ 100) && (Vbdlac.pairsOf l).all fun p => Vbdlac.isCount p.1 && Vbdlac.isCount p.2) fun x => (Vbdlac.samples x (Vbdlac.pairsOf l), Vbdlac.face (Vbdlac.samples x (Vbdlac.pairsOf l))) := by
  rw [← feeds_good h]
  rfl
theorem step_feed (ss : List Sn) (s m n : Int) : Vbdlac.step ⟨ss⟩ (.feeds s [m, n]) = Vbdlac.step ⟨ss⟩ (.feed s m n) := by
  show Vbdlac.on ⟨ss⟩ s (decide (2 ≤ 200) && (Vbdlac.isCount m && (Vbdlac.isCount n && true))) _ = Vbdlac.on ⟨ss⟩ s (Vbdlac.isCount m && Vbdlac.isCount n) _
  rw [Bool.and_true, decide_eq_true (by decide), Bool.true_and]
  rfl
theorem SeC.putc {C : Cs} {H H' : Hp} {a : SA} {dx st l : Addr} {x : Sn} {c : Int} {p : Addr} {ch : Ch} (h : SeC C H a dx st l x) (hp : (c = 0 ∧ p = a.c0) ∨ (c = 1 ∧ p = a.c1)) (hc : ChAt C H' p x.form ch) (fr : Fr [p] H H') : SeC C H' a dx st l (Vbdlac.putChannel x c ch) ∧ Fr (foot a) H H' := by
  rcases hp with ⟨rfl, rfl⟩ | ⟨rfl, rfl⟩
  · exact ⟨h.chA hc fr, fr.in1 (foot_0 a)⟩
  · exact ⟨h.chB hc fr, fr.in1 (foot_1 a)⟩
section
variable {P : Program} {w : World} {K : PySem.W.Frag} {mg : Str → Option Value} {base : Heap} {C : Cs}
theorem ok_call_correct {f : Addr} {fd : FuncData} (F : Fun K "call_correct" "call_correct" s_call_correct f fd) (T : Txt K mg C) (D_are_points : Def P w K mg base "are_points" 2 ["pairs"] (sp_are_points C)) (D_has_channel : Def P w K mg base "has_channel" 2 ["sensors", "s", "ch"] (sp_has_channel C)) (D_Channel_correct : MethD P w K mg base C.ch "correct" 7 ["self", "c1", "v1", "c2", "v2"] (sp_Channel_correct C)) : FnOk P w K mg base CX0 8 f fd ["sensors", "given", "listed"] (sp_call_correct C) := by
  refine F.ok sc_call_correct (fun _ _ _ _ h => h.1) (fun cdv A outer s H vs Q E hr h => ?_)
  obtain ⟨-, h⟩ := h
  obtain ⟨ls, g, li, as, ss, ns, c, rfl, R, ok, hg, nl, hc, k⟩ := h
  obtain ⟨s, ch, c1, v1, c2, v2, rfl, rfl⟩ : ∃ s ch c1 v1 c2 v2 : Int, ns = [s, ch, c1, v1, c2, v2] ∧ c = .correct s ch c1 v1 c2 v2 := by
    try dsimp only at hc
    split at hc
    · exact ⟨_, _, _, _, _, _, rfl, (Option.some.inj hc).symm⟩
    · cases hc
  refine ⟨_, (pss_cons (ps_set (i := 3) sc_call_correct.nd rfl (Or.inl rfl) (x_lst (pa_cons (x_tup (pa_cons (x_ixl (pv 1) pe_int) (pa_cons (x_ixl (pv 1) pe_int) pa_nil))) (pa_cons (x_tup (pa_cons (x_ixl (pv 1) pe_int) (pa_cons (x_ixl (pv 1) pe_int) pa_nil))) pa_nil)))) (pss_cons (ps_if (pt_not (PW.pt (pw_and (pt_val (x_call D_has_channel (hr.mono (by decide)) rfl (pa_cons (pv 0) (pa_cons (x_ixl (pv 1) pe_int) (pa_cons (x_ixl (pv 1) pe_int) pa_nil))))) (pw_and1 (pt_val (x_call D_are_points (hr.mono (by decide)) rfl (pa_cons (pv 3) pa_nil))))))) (pss_one (ps_ret (x_lst (pa_cons (x_gc rfl T.c_OUT_OF_RANGE) pa_nil)))) pss_nil) (pss_cons (ps_set (i := 4) sc_call_correct.nd rfl (Or.inl rfl) (x_ixl (x_fld (x_ixl (pv 0) (x_ixl (pv 1) pe_int))) (x_ixl (pv 1) pe_int))) (pss_one (ps_ret (x_lst (pa_cons (x_meth (pv 4) D_Channel_correct (hr.mono (by decide)) (pa_cons (x_ixl (pv 1) pe_int) (pa_cons (x_ixl (pv 1) pe_int) (pa_cons (x_ixl (pv 1) pe_int) (pa_cons (x_ixl (pv 1) pe_int) pa_nil))))) pa_nil))))))), ?_⟩
  refine ⟨_, rfl, _, IxL.k2 hg, _, rfl, _, IxL.k3 hg, small_len (by simp), fun q1 H1 N1 => ⟨_, rfl, _, IxL.k4 (N1.same _ _ hg), _, rfl, _, IxL.k5 (N1.same _ _ hg), small_len (by simp), fun q2 H2 N2 => ⟨small_len (by simp), fun q3 H3 N3 => ?_⟩⟩⟩
  have t3 : Same H H3 := (N1.same.trans N2.same).trans N3.same
  have R3 := R.same t3
  have hg3 := t3 _ _ hg
  have k3 := k.at t3
  have hP : PairsAt H3 q3 [(c1, v1), (c2, v2)] := by
    refine ⟨[q1, q2], N3.at_, rfl, fun i p d h1 h2 => ?_⟩
    match i, h1, h2 with
    | 0, h1, h2 =>
      cases h1
      cases h2
      exact N3.same _ _ (N2.same _ _ N1.at_)
    | 1, h1, h2 =>
      cases h1
      cases h2
      exact N3.same _ _ N2.at_
    | i + 2, h1, h2 => simp at h1
  have eg : (([(c1, v1), (c2, v2)] : List (Int × Int)).all fun p => Vbdlac.isCount p.1 && Vbdlac.isValue p.2) = (Vbdlac.isCount c1 && (Vbdlac.isValue v1 && (Vbdlac.isCount c2 && Vbdlac.isValue v2))) := by
    show ((Vbdlac.isCount c1 && Vbdlac.isValue v1) && ((Vbdlac.isCount c2 && Vbdlac.isValue v2) && true)) = _
    rw [Bool.and_true, Bool.and_assoc]
  refine ⟨_, rfl, _, rfl, _, IxL.k0 hg3, _, rfl, _, IxL.k1 hg3, rfl, ls, _, s, ch, rfl, R3.lst, _, rfl, ifC (fun h1 => ⟨_, rfl, rfl, q3, _, rfl, hP, _, rfl, ifCN (fun h2 => ⟨small_len (by simp), lst1 (k3.spL R3 (on_bad (by rw [← eg, h2, Bool.and_false])))⟩) (fun h2 => ?_)⟩) (fun h1 => iteT ⟨small_len (by simp), lst1 (k3.spL R3 (l := [-1]) ?_)⟩)⟩
  · rw [Bool.and_eq_true] at h1
    obtain ⟨i, a, x, rfl, ha, hx, ⟨dx, st, l, hS⟩, hv⟩ := R3.find h1.1
    have okx := ok.2 x (List.mem_of_getElem? hx)
    obtain ⟨p, hp1, hp2, hp3⟩ := hS.pick (K := K) h1.2
    have okc := channel_ok okx ch
    have e : Vbdlac.step ⟨ss⟩ (.correct (i : Int) ch c1 v1 c2 v2) = (⟨ss.set i (Vbdlac.putChannel x ch (corr x.form (Vbdlac.channel x ch) c1 v1 c2 v2).1)⟩, [(corr x.form (Vbdlac.channel x ch) c1 v1 c2 v2).2]) := by
      refine (on_some hx (by rw [h1.2, ← eg, h2]; rfl)).trans ?_
      rw [correct_eq]
    have h2 := h2
    rw [eg] at h2
    simp only [Bool.and_eq_true] at h2
    obtain ⟨dc, sc, gc, oc, wc, hcc⟩ := hp2
    refine ⟨_, rfl, _, rfl, _, IxL.k0 hg3, _, IxL.n R3.lst rfl hv, _, sef_channels T hS.at_, _, rfl, _, IxL.k1 hg3, _, hp1, ?_⟩
    refine ⟨_, rfl, ch_no _ hcc.at_, _, rfl, _, IxL.k2 hg3, _, rfl, _, IxL.k3 hg3, _, rfl, _, IxL.k4 hg3, _, rfl, _, IxL.k5 hg3, rfl, p, c1, v1, c2, v2, x.form, _, rfl, ⟨dc, sc, gc, oc, wc, hcc⟩, okx.f, okc, count_mk h2.1, count_mk h2.2.2.1, value_mk h2.2.1, value_mk h2.2.2.2, fun H4 h4 f4 => ?_⟩
    obtain ⟨hS4, f4⟩ := hS.putc hp3 h4 f4
    exact ⟨small_len (by simp), lst1 (k3.put1 R3 ha hx e f4 ⟨dx, st, l, hS4⟩)⟩
  · rw [Bool.and_eq_false_iff] at h1
    rcases h1 with h1 | h1
    · exact on_none (R3.miss h1)
    · exact on_bad (by rw [h1, Bool.false_and])
theorem ok_call_reference {f : Addr} {fd : FuncData} (F : Fun K "call_reference" "call_reference" s_call_reference f fd) (T : Txt K mg C) (D_is_value : Def P w K mg base "is_value" 1 ["number"] (sp_is_value C)) (D_has_sensor : Def P w K mg base "has_sensor" 1 ["sensors", "s"] (sp_has_sensor C)) (D_Sensor_judge_channels : MethD P w K mg base C.se "judge_channels" 11 ["self", "known"] (sp_Sensor_judge_channels C)) : FnOk P w K mg base CX0 12 f fd ["sensors", "given", "listed"] (sp_call_reference C) := by
  refine F.ok sc_call_reference (fun _ _ _ _ h => h.1) (fun cdv A outer s H vs Q E hr h => ?_)
  obtain ⟨-, h⟩ := h
  obtain ⟨ls, g, li, as, ss, ns, c, rfl, R, ok, hg, nl, hc, k⟩ := h
  obtain ⟨s, v, rfl, rfl⟩ : ∃ s v : Int, ns = [s, v] ∧ c = .reference s v := by
    try dsimp only at hc
    split at hc
    · exact ⟨_, _, rfl, (Option.some.inj hc).symm⟩
    · cases hc
  refine ⟨_, (pss_cons (ps_if (pt_not (PW.pt (pw_and (pt_val (x_call D_has_sensor (hr.mono (by decide)) rfl (pa_cons (pv 0) (pa_cons (x_ixl (pv 1) pe_int) pa_nil)))) (pw_and1 (pt_val (x_call D_is_value (hr.mono (by decide)) rfl (pa_cons (x_ixl (pv 1) pe_int) pa_nil))))))) (pss_one (ps_ret (x_lst (pa_cons (x_gc rfl T.c_OUT_OF_RANGE) pa_nil)))) pss_nil) (pss_cons (ps_set (i := 3) sc_call_reference.nd rfl (Or.inl rfl) (x_ixl (pv 0) (x_ixl (pv 1) pe_int))) (pss_cons (ps_expr (x_meth (pv 3) D_Sensor_judge_channels (hr.mono (by decide)) (pa_cons (x_ixl (pv 1) pe_int) pa_nil))) (pss_cons (ps_set (i := 4) sc_call_reference.nd rfl (Or.inl rfl) (pe_ifExp (pt_cmpR x_opeq (x_fld (x_ixl (x_fld (pv 3)) pe_int)) (x_gc rfl T.c_NO_FAULT) (nomark _)) pe_int pe_int)) (pss_cons (ps_set (i := 5) sc_call_reference.nd rfl (Or.inl rfl) (pe_ifExp (pt_cmpR x_opeq (x_fld (x_ixl (x_fld (pv 3)) pe_int)) (x_gc rfl T.c_NO_FAULT) (nomark _)) pe_int pe_int)) (pss_one (ps_ret (x_lst (pa_cons (pe_op op_add (pv 4) (pv 5)) pa_nil))))))))), ?_⟩
  refine ⟨_, rfl, _, rfl, _, IxL.k0 hg, rfl, ls, _, s, rfl, R.lst, _, rfl, ifC (fun h1 => ⟨_, rfl, _, IxL.k1 hg, rfl, v, rfl, _, rfl, ifCN (fun h2 => ⟨small_len (by simp), lst1 (k.spL R (on_bad h2))⟩) (fun h2 => ?_)⟩) (fun h1 => iteT ⟨small_len (by simp), lst1 (k.spL R (on_none (R.miss h1)))⟩)⟩
  obtain ⟨i, a, x, rfl, ha, hx, ⟨dx, st, l, hS⟩, hv⟩ := R.find h1
  have okx := ok.2 x (List.mem_of_getElem? hx)
  obtain ⟨y, hy⟩ : ∃ y : Sn, y = { x with a := Vbdlac.judged x.form x.a v, b := Vbdlac.judged x.form x.b v, unlike := 0 } := ⟨_, rfl⟩
  have e : Vbdlac.step ⟨ss⟩ (.reference (i : Int) v) = (⟨ss.set i y⟩, [Vbdlac.bit (y.a.fault == 0) + 2 * Vbdlac.bit (y.b.fault == 0)]) := by
    subst hy
    exact on_some hx h2
  refine ⟨_, rfl, _, rfl, _, IxL.k0 hg, _, IxL.n R.lst rfl hv, ?_⟩
  refine ⟨_, rfl, se_no _ hS.at_, _, rfl, _, IxL.k1 hg, rfl, a, x, v, rfl, ⟨dx, st, l, hS⟩, okx, fun H2 h2 f2 => ?_⟩
  rw [← hy] at h2
  have q := k.put1 R ha hx e f2 h2
  obtain ⟨dx2, st2, l2, hS2⟩ := h2
  obtain ⟨d0, s0, g0, o0, w0, hc0⟩ := hS2.a0
  obtain ⟨d1, s1, g1, o1, w1, hc1⟩ := hS2.a1
  have bit0 : ∀ n : Nat, Vbdlac.bit (n == 0) = if (n : Int) = 0 then 1 else 0 := fun n => by
    unfold Vbdlac.bit
    by_cases h : n = 0
    · rw [if_pos (by rw [beq_iff_eq]; exact h), if_pos (by omega)]
    · rw [if_neg (by rw [beq_iff_eq]; exact h), if_neg (by omega)]
  rw [bit0, bit0] at q
  refine ⟨_, rfl, _, sef_channels T hS2.at_, _, IxL.k0 hS2.chs, _, chf_fault T hc0.at_, _, _, rfl, rfl, _, rfl, ifB (fun h3 => ?_) (fun h3 => ?_)⟩
  · have h3 : (y.a.fault : Int) = 0 := h3
    rw [if_pos h3] at q
    refine ⟨_, rfl, _, sef_channels T hS2.at_, _, IxL.k1 hS2.chs, _, chf_fault T hc1.at_, _, _, rfl, rfl, _, rfl, ifB (fun h4 => ?_) (fun h4 => ?_)⟩
    · have h4 : (y.b.fault : Int) = 0 := h4
      rw [if_pos h4] at q
      exact ⟨_, rfl, _, rfl, _, _, rfl, rfl, small_len (by simp), lst1 q⟩
    · have h4 : ¬ (y.b.fault : Int) = 0 := h4
      rw [if_neg h4] at q
      exact ⟨_, rfl, _, rfl, _, _, rfl, rfl, small_len (by simp), lst1 q⟩
  · have h3 : ¬ (y.a.fault : Int) = 0 := h3
    rw [if_neg h3] at q
    refine ⟨_, rfl, _, sef_channels T hS2.at_, _, IxL.k1 hS2.chs, _, chf_fault T hc1.at_, _, _, rfl, rfl, _, rfl, ifB (fun h4 => ?_) (fun h4 => ?_)⟩
    · have h4 : (y.b.fault : Int) = 0 := h4
      rw [if_pos h4] at q
      exact ⟨_, rfl, _, rfl, _, _, rfl, rfl, small_len (by simp), lst1 q⟩
    · have h4 : ¬ (y.b.fault : Int) = 0 := h4
      rw [if_neg h4] at q
      exact ⟨_, rfl, _, rfl, _, _, rfl, rfl, small_len (by simp), lst1 q⟩
theorem ok_call_feeds {f : Addr} {fd : FuncData} (F : Fun K "call_feeds" "call_feeds" s_call_feeds f fd) (T : Txt K mg C) (D_are_counts : Def P w K mg base "are_counts" 2 ["pairs"] (sp_are_counts C)) (D_has_sensor : Def P w K mg base "has_sensor" 1 ["sensors", "s"] (sp_has_sensor C)) (D_Sensor_sample : MethD P w K mg base C.se "sample" 12 ["self", "m", "n"] (sp_Sensor_sample C)) (D_sensor_answer : Def P w K mg base "sensor_answer" 11 ["sensor"] (sp_sensor_answer C)) : FnOk P w K mg base CX0 13 f fd ["sensors", "given", "pairs"] (sp_call_feeds C) := by
  refine F.ok sc_call_feeds (fun _ _ _ _ h => h.1) (fun cdv A outer s H vs Q E hr h => ?_)
  obtain ⟨-, h⟩ := h
  obtain ⟨ls, g, li, as, ss, ns, c, rfl, R, ok, hg, nl, ⟨s, l0, rfl, hev, hL, rfl⟩, k⟩ := h
  refine ⟨_, (pss_cons (ps_if (pt_not (PW.pt (pw_and (pt_val (x_call D_has_sensor (hr.mono (by decide)) rfl (pa_cons (pv 0) (pa_cons (x_ixl (pv 1) pe_int) pa_nil)))) (pw_and (pt_cmpR op_le (pe_callB x_callen (by rfl) T.b_len boot_len' (pa_cons (pv 2) pa_nil)) (x_gc rfl T.c_MOST_FED) (nomark _)) (pw_and1 (pt_val (x_call D_are_counts (hr.mono (by decide)) rfl (pa_cons (pv 2) pa_nil)))))))) (pss_one (ps_ret (x_lst (pa_cons (x_gc rfl T.c_OUT_OF_RANGE) pa_nil)))) pss_nil) (pss_cons (ps_set (i := 3) sc_call_feeds.nd rfl (Or.inl rfl) (x_ixl (pv 0) (x_ixl (pv 1) pe_int))) (pss_cons (ps_for PassesOwn.never rfl (pi_list (pv 2)) (pg_name (i := 4) sc_call_feeds.nd rfl (Or.inl rfl)) (pss_one (ps_expr (x_meth (pv 3) D_Sensor_sample (hr.mono (by decide)) (pa_cons (x_ixt (pv 4) pe_int) (pa_cons (x_ixt (pv 4) pe_int) pa_nil)))))) (pss_one (ps_ret (x_call D_sensor_answer (hr.mono (by decide)) rfl (pa_cons (pv 3) pa_nil))))))), ?_⟩
  rw [step_feeds ss s hev] at k
  generalize Vbdlac.pairsOf l0 = l at k hL
  obtain ⟨ps, hp, hl⟩ := hL
  have hlen : (ps.map V.ref).length = l.length := by rw [List.length_map, hl.1]
  refine ⟨_, rfl, _, rfl, _, IxL.k0 hg, rfl, ls, _, s, rfl, R.lst, _, rfl, ifC (fun h1 => ⟨_, rfl, l.length, ⟨li, _, rfl, .inl (SqL.of hp), hlen⟩, _, _, rfl, rfl, _, rfl, ifB (fun h2 => ⟨_, rfl, rfl, li, l, rfl, ⟨ps, hp, hl⟩, _, rfl, ifCN (fun h3 => ⟨small_len (by simp), lst1 (k.spL R (on_bad (by rw [h3, Bool.and_false])))⟩) (fun h3 => ?_)⟩) (fun h2 => iteT ⟨small_len (by simp), lst1 (k.spL R (l := [-1]) (on_bad ?_))⟩)⟩) (fun h1 => iteT ⟨small_len (by simp), lst1 (k.spL R (on_none (R.miss h1)))⟩)⟩
  · have h2 : (l.length : Int) ≤ 100 := h2
    obtain ⟨i, a, x, rfl, ha, hx, hS, hv⟩ := R.find h1
    have okx := ok.2 x (List.mem_of_getElem? hx)
    have hcn : ∀ p ∈ l, Cnt p.1 ∧ Cnt p.2 := fun p hp => by
      rw [List.all_eq_true] at h3
      have q := h3 p hp
      rw [Bool.and_eq_true] at q
      exact ⟨count_mk q.1, count_mk q.2⟩
    have m := hS.mutl
    have e := on_some (f := fun x => (Vbdlac.samples x l, Vbdlac.face (Vbdlac.samples x l))) hx (g := decide (l.length ≤ 100) && l.all fun p => Vbdlac.isCount p.1 && Vbdlac.isCount p.2) (by rw [h3, decide_eq_true (show l.length ≤ 100 by omega)]; rfl)
    refine ⟨_, rfl, _, rfl, _, IxL.k0 hg, _, IxL.n R.lst rfl hv, ?_⟩
    refine ⟨_, rfl, li, rfl, ⟨_, SqL.of hp⟩, for_list (K := K) (a := li) (xs := ps.map V.ref) (fun j σ H' => (∃ v, σ = [some (.ref ls), some (.ref g), some (.ref li), some (.ref a.x), v]) ∧ SeAt C H' a (Vbdlac.samples x (l.take j)) ∧ Fr (foot a) H H') ⟨⟨none, rfl⟩, hS, Fr.refl _ _⟩ (fun j σ H' _ ⟨_, _, f1⟩ => SqL.of (f1.keep m hp (.inl rfl))) ?_ ?_⟩
    · rintro j y σ H' hy ⟨⟨v, rfl⟩, ⟨dx, st, lc, hS1⟩, f1⟩
      obtain ⟨p, d, rfl, hd, hpt⟩ := pts_item hl hy
      have hpt1 := f1.keep m hpt (.inl rfl)
      obtain ⟨cm, cn⟩ := hcn d (List.mem_of_getElem? hd)
      have okj : SeOk (Vbdlac.samples x (l.take j)) := samples_ok okx fun p hp => hcn p (List.mem_of_mem_take hp)
      refine ⟨_, rfl, se_no _ hS1.at_, _, rfl, _, IxT.a hpt1, _, rfl, _, IxT.b hpt1, rfl, a, _, d.1, d.2, rfl, ⟨dx, st, lc, hS1⟩, okj, cm, cn, fun H2 h2 f2 => ⟨⟨_, rfl⟩, ?_, f1.trans f2⟩⟩
      rw [take_snoc hd, samples_snoc]
      exact h2
    · rintro σ H' ⟨⟨v, rfl⟩, hS1, f1⟩
      rw [hlen, List.take_length] at hS1
      exact ⟨_, rfl, rfl, a, _, rfl, hS1, samples_ok okx hcn, k.put1 R ha hx e f1 hS1⟩
  · have h2 : ¬ (l.length : Int) ≤ 100 := h2
    rw [decide_eq_false (show ¬ l.length ≤ 100 by omega), Bool.false_and]
theorem ok_call_feed {f : Addr} {fd : FuncData} (F : Fun K "call_feed" "call_feed" s_call_feed f fd) (T : Txt K mg C) (D_call_feeds : Def P w K mg base "call_feeds" 13 ["sensors", "given", "pairs"] (sp_call_feeds C)) : FnOk P w K mg base CX0 14 f fd ["sensors", "given", "listed"] (sp_call_feed C) := by
  refine F.ok sc_call_feed (fun _ _ _ _ h => h.1) (fun cdv A outer s H vs Q E hr h => ?_)
  obtain ⟨-, h⟩ := h
  obtain ⟨ls, g, li, as, ss, ns, c, rfl, R, ok, hg, nl, hc, k⟩ := h
  obtain ⟨s, m, n, rfl, rfl⟩ : ∃ s m n : Int, ns = [s, m, n] ∧ c = .feed s m n := by
    try dsimp only at hc
    split at hc
    · exact ⟨_, _, _, rfl, (Option.some.inj hc).symm⟩
    · cases hc
  refine ⟨_, (pss_one (ps_ret (x_call D_call_feeds (hr.mono (by decide)) rfl (pa_cons (pv 0) (pa_cons (x_slice (pv 1) po_none (po_some pe_int)) (pa_cons (x_lst (pa_cons (x_tup (pa_cons (x_ixl (pv 1) pe_int) (pa_cons (x_ixl (pv 1) pe_int) pa_nil))) pa_nil)) pa_nil)))))), ?_⟩
  rw [← step_feed] at k
  refine ⟨_, rfl, _, rfl, _, rfl, _, LstF.mk hg, fun g2 H2 N2 => ?_⟩
  have hg2 := N2.same _ _ hg
  refine ⟨_, rfl, _, IxL.k1 hg2, _, rfl, _, IxL.k2 hg2, small_len (by simp), fun p3 H3 N3 => ⟨small_len (by simp), fun p4 H4 N4 => ?_⟩⟩
  have t4 : Same H H4 := (N2.same.trans N3.same).trans N4.same
  have eg : H2 g2 = some (.lst (([s] : List Int).map V.int)) := by
    have q := N2.at_
    rw [show (1 : Int) = ((1 : Nat) : Int) from rfl, cut_to] at q
    exact q
  have ne : p4 ≠ ls := fun z => by
    have q := N4.fresh
    rw [z, N3.same _ _ (N2.same _ _ R.lst)] at q
    cases q
  refine ⟨rfl, ls, g2, p4, as, ss, [s], .feeds s [m, n], rfl, R.same t4, ok, N4.same _ _ (N3.same _ _ eg), ne, ⟨s, [m, n], rfl, (by show (2 : Nat) % 2 = 0; decide), ⟨[p3], N4.at_, rfl, fun i p d h1 h2 => ?_⟩, rfl⟩, k.at t4⟩
  match i, h1, h2 with
  | 0, h1, h2 =>
    cases h1
    cases h2
    exact N4.same _ _ N3.at_
  | i + 1, h1, h2 => simp at h1
end
theorem step_sensor (ss : List Sn) (w t m z d lo hi : Int) (l : List Int) : Vbdlac.step ⟨ss⟩ (.sensor w t m z d lo hi l) = if (okset w t m z d lo hi && (decide (2 ≤ (Vbdlac.pairsOf l).length) && (decide ((Vbdlac.pairsOf l).length ≤ 8) && (Vbdlac.pairsOf l).all fun p => Vbdlac.isCount p.1 && Vbdlac.isValue p.2))) = false then (⟨ss⟩, [-1])
    else if 16 ≤ ss.length then (⟨ss⟩, [-2])
    else if Vbdlac.rising (Vbdlac.pairsOf l) = false then (⟨ss⟩, [-3])
    else (⟨ss ++ [⟨⟨w.toNat, t, m.toNat, z.toNat, d.toNat, lo, hi, Vbdlac.pairsOf l⟩, Vbdlac.newChannel, Vbdlac.newChannel, 0, none⟩]⟩, [(ss.length : Int)]) := by
  unfold Vbdlac.step okset
  simp only [Bool.and_assoc]
  rfl
section
variable {C : Cs} {H : Hp} {ls : Addr} {as : List SA} {ss : List Sn} {xs : List V}
theorem SetAt.updl {st : Addr} {f : Fm} (h : SetAt C H st f) (R : Rep C H ls as ss) (ht : 0 < f.table.length) (o : HO) : SetAt C (upd H ls o) st f := by
  obtain ⟨dx, pl, h1, ps, h2, h3, h4⟩ := h
  have nt : ∀ {z : Addr} {xs : List V}, H z = some (.tup xs) → z ≠ ls := fun h => ne_of h R.lst (by intro q; cases q)
  have npl : pl ≠ ls := fun e => by
    rw [e, R.lst] at h2
    have e2 : as.map (fun a => V.ref a.x) = ps.map V.ref := HO.lst.inj (Option.some.inj h2)
    obtain ⟨p0, hp0⟩ := some_at (l := ps) (i := 0) (by rw [h3]; exact ht)
    obtain ⟨c0, hc0⟩ := some_at ht
    have hp := h4 0 p0 c0 hp0 hc0
    have hl : as.length = ps.length := by simpa using congrArg List.length e2
    obtain ⟨a0, ha0⟩ := some_at (l := as) (i := 0) (by rw [hl, h3]; exact ht)
    obtain ⟨s0, hs0⟩ := some_at (l := ss) (i := 0) (by rw [← R.len, hl, h3]; exact ht)
    have e3 := congrArg (fun l => l[0]?) e2
    simp only [List.getElem?_map, ha0, hp0, Option.map_some] at e3
    have e4 : a0.x = p0 := V.ref.inj (Option.some.inj e3)
    obtain ⟨d, s, l, hS⟩ := R.at_ 0 a0 s0 ha0 hs0
    have q := hS.at_
    rw [e4, hp] at q
    cases q
  refine ⟨dx, pl, ?_, ps, ?_, h3, fun i p c e1 e2 => ?_⟩
  · rw [upd_ne (ne_kind h1 R.lst (by show (108 : Nat) ≠ 0; decide))]
    exact h1
  · rw [upd_ne npl]
    exact h2
  · have q := h4 i p c e1 e2
    rw [upd_ne (nt q)]
    exact q
theorem ChC.updl {c dx st g o w : Addr} {f : Fm} {ch : Ch} (h : ChC C H c dx st g o w f ch) (R : Rep C H ls as ss) (ht : 0 < f.table.length) (nw : w ≠ ls) (u : HO) : ChC C (upd H ls u) c dx st g o w f ch := by
  have nt : ∀ {z : Addr} {xs : List V}, H z = some (.tup xs) → z ≠ ls := fun h => ne_of h R.lst (by intro q; cases q)
  refine ⟨?_, h.set.updl R ht u, ?_, ?_, ?_⟩
  · rw [upd_ne (ne_kind h.at_ R.lst (by show (107 : Nat) ≠ 0; decide))]
    exact h.at_
  · show upd H ls u g = _
    rw [upd_ne (nt h.ga)]
    exact h.ga
  · show upd H ls u o = _
    rw [upd_ne (nt h.off)]
    exact h.off
  · rw [upd_ne nw]
    exact h.win
end
section
variable {P : Program} {w : World} {K : PySem.W.Frag} {mg : Str → Option Value} {base : Heap} {C : Cs}
theorem ok_call_sensor {f : Addr} {fd : FuncData} (F : Fun K "call_sensor" "call_sensor" s_call_sensor f fd) (T : Txt K mg C) (D_are_points : Def P w K mg base "are_points" 2 ["pairs"] (sp_are_points C)) (D_are_settings : Def P w K mg base "are_settings" 1 ["given"] (sp_are_settings C)) (D_points_rise : Def P w K mg base "points_rise" 1 ["points"] (sp_points_rise C)) (M_Sensor : MakeD P w K mg base "Sensor" C.se 4 ["self", "settings"] (sp_Sensor_init C)) (M_Settings : MakeD P w K mg base "Settings" C.st 1 ["self", "given", "points"] (sp_Settings_init C)): FnOk P w K mg base CX0 6 f fd ["sensors", "given", "pairs"] (sp_call_sensor C) := by
  refine F.ok sc_call_sensor (fun _ _ _ _ h => h.1) (fun cdv A outer s H vs Q E hr h => ?_)
  obtain ⟨-, h⟩ := h
  obtain ⟨ls, g, li, as, ss, ns, c, rfl, R, ok, hg, nl, ⟨w, t, m, z, d, lo, hi, l0, rfl, hL, rfl⟩, k⟩ := h
  refine ⟨_, (pss_cons (ps_if (pt_not (PW.pt (pw_and (pt_val (x_call D_are_settings (hr.mono (by decide)) rfl (pa_cons (pv 1) pa_nil))) (pw_and (pt_chain op_le op_le pe_int (pe_callB x_callen (by rfl) T.b_len boot_len' (pa_cons (pv 2) pa_nil)) pe_int) (pw_and1 (pt_val (x_call D_are_points (hr.mono (by decide)) rfl (pa_cons (pv 2) pa_nil)))))))) (pss_one (ps_ret (x_lst (pa_cons (x_gc rfl T.c_OUT_OF_RANGE) pa_nil)))) pss_nil) (pss_cons (ps_if (pt_cmpR x_opeq (pe_callB x_callen (by rfl) T.b_len boot_len' (pa_cons (pv 0) pa_nil)) (x_gc rfl T.c_MOST_SENSORS) (nomark _)) (pss_one (ps_ret (x_lst (pa_cons (x_gc rfl T.c_TOO_MANY_SENSORS) pa_nil)))) pss_nil) (pss_cons (ps_if (pt_not (pt_val (x_call D_points_rise (hr.mono (by decide)) rfl (pa_cons (pv 2) pa_nil)))) (pss_one (ps_ret (x_lst (pa_cons (x_gc rfl T.c_POINTS_DO_NOT_RISE) pa_nil)))) pss_nil) (pss_cons (ps_expr (pe_bm PySem.F.plainAttrs_list PySem.F.slot_list_append PySem.F.type_list_append mt_append (pv 0) (pa_cons (x_make M_Sensor (hr.mono (by decide)) rfl (pa_cons (x_make M_Settings (hr.mono (by decide)) rfl (pa_cons (pv 1) (pa_cons (pv 2) pa_nil))) pa_nil)) pa_nil))) (pss_one (ps_ret (x_lst (pa_cons (pe_op op_sub (pe_callB x_callen (by rfl) T.b_len boot_len' (pa_cons (pv 0) pa_nil)) pe_int) pa_nil)))))))), ?_⟩
  rw [step_sensor] at k
  generalize Vbdlac.pairsOf l0 = l at k hL
  have hlen : ∀ {H' : Hp}, Same H H' → LenF K H' [.ref li] l.length := fun s => by
    obtain ⟨ps, hp, hl⟩ := hL
    exact ⟨li, _, rfl, .inl (SqL.of (s _ _ hp)), by rw [List.length_map, hl.1]⟩
  have no : (okset w t m z d lo hi && (decide (2 ≤ l.length) && (decide (l.length ≤ 8) && l.all fun p => Vbdlac.isCount p.1 && Vbdlac.isValue p.2))) = false → spL [-1] H Q := fun hz => k.spL R (if_pos hz)
  refine ⟨_, rfl, rfl, g, w, t, m, z, d, lo, hi, rfl, hg, fun H1 s1 => ⟨_, rfl, ifC (fun h1 => ?_) (fun h1 => iteT ⟨small_len (by simp), lst1 ((no (by rw [h1, Bool.false_and])).at s1)⟩)⟩⟩
  have hL1 := hL.same s1
  refine ⟨_, rfl, _, hlen s1, _, _, rfl, rfl, _, rfl, ifB (fun h2 => ⟨_, _, rfl, rfl, _, rfl, ifB (fun h3 => ⟨_, rfl, rfl, li, l, rfl, hL1, _, rfl, ifCN (fun h4 => ⟨small_len (by simp), lst1 ((no (by rw [h4, Bool.and_false, Bool.and_false, Bool.and_false])).at s1)⟩) (fun h4 => ?_)⟩) (fun h3 => iteT ⟨small_len (by simp), lst1 ((no ?_).at s1)⟩)⟩) (fun h2 => ⟨_, rfl, iteF (iteT ⟨small_len (by simp), lst1 ((no ?_).at s1)⟩)⟩)⟩
  · have h2 : (2 : Int) ≤ (l.length : Int) := h2
    have h3 : (l.length : Int) ≤ 8 := h3
    rw [if_neg (by rw [h1, h4, decide_eq_true (show 2 ≤ l.length by omega), decide_eq_true (show l.length ≤ 8 by omega)]; decide)] at k
    have R1 := R.same s1
    have hl16 := ok.1
    refine ⟨_, rfl, ss.length, ⟨ls, _, rfl, .inl (SqL.of R1.lst), by rw [List.length_map, R.len]⟩, _, _, rfl, rfl, _, rfl, ifB (fun h5 => ?_) (fun h5 => ?_)⟩
    · have h5 : (ss.length : Int) = 16 := h5
      exact ⟨small_len (by simp), lst1 ((k.spL R (if_pos (by omega))).at s1)⟩
    have h5 : ¬ (ss.length : Int) = 16 := h5
    rw [if_neg (by omega)] at k
    refine ⟨_, rfl, rfl, li, l, rfl, hL1, by omega, by omega, _, rfl, ifCN (fun h6 => ⟨small_len (by simp), lst1 ((k.spL R (if_pos h6)).at s1)⟩) (fun h6 => ?_)⟩
    rw [if_neg (by rw [h6]; decide)] at k
    rw [okset_iff] at h1
    obtain ⟨wn, rfl⟩ : ∃ wn : Nat, w = (wn : Int) := ⟨w.toNat, by omega⟩
    obtain ⟨mn, rfl⟩ : ∃ mn : Nat, m = (mn : Int) := ⟨m.toNat, by omega⟩
    obtain ⟨zn, rfl⟩ : ∃ zn : Nat, z = (zn : Int) := ⟨z.toNat, by omega⟩
    obtain ⟨dn, rfl⟩ : ∃ dn : Nat, d = (dn : Int) := ⟨d.toNat, by omega⟩
    refine ⟨_, rfl, .inl ⟨rfl, _, SqL.of R1.lst⟩, _, rfl, _, rfl, fun xs dxs H2 m2 => ⟨rfl, xs, dxs, g, li, wn, mn, zn, dn, t, lo, hi, l, rfl, m2.at_, m2.same _ _ (s1 _ _ hg), hL1.same m2.same, fun H3 hs3 f3 => ⟨rfl, fun xn dxn H4 m4 => ⟨rfl, xn, dxn, xs, _, rfl, m4.at_, hs3.same m4.same, fun c0 c1 w0 w1 H5 e0 e1 ew0 ew1 n01 ⟨lc, elc, hx5, hlc5⟩ ⟨d0, g0, o0, hc0⟩ ⟨d1, g1, o1, hc1⟩ f5 => ?_⟩⟩⟩⟩
    have s3 : Same H1 H3 := Fr.fresh m2.same f3 m2.fresh
    have s5 : Same H3 H5 := Fr.fresh m4.same f5 m4.fresh
    have t5 : Same H H5 := (s1.trans s3).trans s5
    have R5 := R.same t5
    have nls : ∀ {y : Addr}, H3 y = none → y ≠ ls := fun {y} hy e => by
      rw [e, s3 _ _ R1.lst] at hy
      cases hy
    have f4 : ∀ {y : Addr}, H4 y = none → H3 y = none := fun hy => m4.same.free hy
    refine ⟨rfl, ls, _, _, rfl, rfl, R5.lst, ?_, ?_⟩
    · rw [List.length_map, R.len, sizeLine_eq]
      omega
    have ht : 0 < l.length := by omega
    have hc0' := hc0.updl R5 ht (nls (f4 ew0)) (.lst (as.map (fun a => V.ref a.x) ++ [.ref xn]))
    have hc1' := hc1.updl R5 ht (nls (f4 ew1)) (.lst (as.map (fun a => V.ref a.x) ++ [.ref xn]))
    generalize hH6 : upd H5 ls (.lst (as.map (fun a => V.ref a.x) ++ [.ref xn])) = H6 at hc0' hc1'
    have h6ls : H6 ls = some (.lst (as.map (fun a => V.ref a.x) ++ [.ref xn])) := by rw [← hH6]; exact upd_same
    have h6ne : ∀ {b : Addr}, b ≠ ls → H6 b = H5 b := fun hb => by rw [← hH6, upd_ne hb]
    have nxn : xn ≠ ls := nls m4.fresh
    have hS6 : SeAt C H6 ⟨xn, c0, c1, none⟩ ⟨⟨wn, t, mn, zn, dn, lo, hi, l⟩, Vbdlac.newChannel, Vbdlac.newChannel, 0, none⟩ := by
      refine ⟨dxn, xs, lc, ?_, hc0'.set, ?_, ⟨_, _, _, _, _, hc0'⟩, ⟨_, _, _, _, _, hc1'⟩, n01, trivial⟩
      · rw [h6ne nxn]
        exact hx5
      · rw [h6ne (nls (f4 elc))]
        exact hlc5
    have fz : ∀ y ∈ foot ⟨xn, c0, c1, none⟩, H y = none := fun y hy => by
      have hy : y = xn ∨ y = c0 ∨ y = c1 := by simpa [foot] using hy
      rcases hy with rfl | rfl | rfl
      · exact (s1.trans s3).free m4.fresh
      · exact (s1.trans s3).free (f4 e0)
      · exact (s1.trans s3).free (f4 e1)
    have R6 : Rep C H6 ls (as ++ [⟨xn, c0, c1, none⟩]) (ss ++ [⟨⟨wn, t, mn, zn, dn, lo, hi, l⟩, Vbdlac.newChannel, Vbdlac.newChannel, 0, none⟩]) := R.add (fun b o hb h => by rw [h6ne hb]; exact t5 _ _ h) (by rw [h6ls, List.map_append]; rfl) hS6 fz
    refine ⟨_, rfl, ss.length + 1, ⟨ls, _, rfl, .inl (SqL.of h6ls), by rw [List.length_append, List.length_map, R.len]; rfl⟩, _, _, rfl, rfl, small_len (by simp), fun p H7 N7 => ?_⟩
    refine k (as ++ [⟨xn, c0, c1, none⟩]) p H7 (R6.same N7.same) (fun b o hb h _ => N7.same _ _ (by rw [h6ne hb]; exact t5 _ _ h)) ?_ ?_
    · rw [N7.at_]
      show some (HO.lst [V.int ((((ss.length + 1 : Nat)) : Int) - 1)]) = some (HO.lst [V.int (ss.length : Int)])
      rw [show (((ss.length + 1 : Nat)) : Int) - 1 = (ss.length : Int) by omega]
    · have np : p ≠ ls := fun e => by
        have q := N7.fresh
        rw [e, h6ls] at q
        cases q
      have q := N7.fresh
      rw [h6ne np] at q
      exact t5.free q
  · have h3 : ¬ (l.length : Int) ≤ 8 := h3
    rw [decide_eq_false (show ¬ l.length ≤ 8 by omega), Bool.false_and, Bool.and_false, Bool.and_false]
  · have h2 : ¬ (2 : Int) ≤ (l.length : Int) := h2
    rw [decide_eq_false (show ¬ 2 ≤ l.length by omega), Bool.false_and, Bool.and_false]
end
end Tw
set_option Elab.async false
set_option linter.all false
set_option maxRecDepth 100000
set_option maxHeartbeats 2000000
namespace Tw
open PySem PySem.Spec PyProof.Rows L2 L3
def hid (H : Hp) (t : Addr) : Hp := fun b => if b = t then none else H b
theorem hid_self (H : Hp) (t : Addr) : hid H t t = none := if_pos rfl
theorem hid_ne {H : Hp} {t b : Addr} (h : b ≠ t) : hid H t b = H b := if_neg h
theorem hid_some {H : Hp} {t b : Addr} {o : HO} (h : hid H t b = some o) : b ≠ t ∧ H b = some o := by
  by_cases e : b = t
  · rw [e, hid_self] at h
    cases h
  · rw [hid_ne e] at h
    exact ⟨e, h⟩
theorem hid_upd {H : Hp} {t : Addr} {o : HO} (h : H t = none) : hid (upd H t o) t = H := by
  funext b
  by_cases e : b = t
  · rw [e, hid_self, h]
  · rw [hid_ne e, upd_ne e]
theorem hid_upd2 {H : Hp} {t : Addr} {o u : HO} : hid (upd (upd H t o) t u) t = hid (upd H t o) t := by
  funext b
  by_cases e : b = t
  · rw [e, hid_self, hid_self]
  · rw [hid_ne e, hid_ne e, upd_ne e]
theorem hid_same {H H' : Hp} {t : Addr} (s : Same H H') : Same (hid H t) (hid H' t) := fun b o h => by
  obtain ⟨h1, h2⟩ := hid_some h
  rw [hid_ne h1]
  exact s b o h2
def spFr (sp : Sp) : Sp := fun vs H Q E => ∃ (t : Addr) (xs : List V), H t = some (.lst xs) ∧ sp vs (hid H t) (fun v H2 => H2 t = none → Q v (upd H2 t (.lst xs))) E
theorem _root_.L2.FnOk.frame {P : Program} {w : World} {K : PySem.W.Frag} {mg : Str → Option Value} {base : Heap} {k : Nat} {f : Addr} {fd : FuncData} {ps : List Str} {sp : Sp} (F : FnOk P w K mg base CX0 k f fd ps sp) : FnOk P w K mg base CX0 k f fd ps (spFr sp) := by
  refine ⟨fun vs H Q E ⟨t, xs, _, h⟩ => F.len vs _ _ E h, ?_⟩
  rintro A outer s H args us vs Q E hr env hb hv ⟨t, xs, ht, h⟩
  have nt : ∀ {b : Addr} {o : HO}, H b = some o → (∀ zs, o ≠ .lst zs) → b ≠ t := fun {b o} hb ho e => by
    rw [e, ht] at hb
    exact ho xs (Option.some.inj hb).symm
  have hk : HOk P w (hid H t) s.heap := fun a o ha => by
    obtain ⟨h1, h2⟩ := hid_some ha
    exact (env.hok a o h2).stay (fun b u _ q => q) (fun b q => by rw [hid_ne (nt q (by intro zs z; cases z))]; exact q) fun b zs q => by rw [hid_ne (nt q (by intro zs z; cases z))]; exact q
  have hn : ∀ {b : Addr}, H b = none → hid H t b = none := fun {b} hb => by
    by_cases e : b = t
    · rw [e, hid_self]
    · rw [hid_ne e]
      exact hb
  have env2 : Env0 P w K mg base A outer s (hid H t) := ⟨env.frames, env.mod, fun b o e => ⟨(env.bs b o e).1, hn (env.bs b o e).2⟩, env.bsz, env.funs, fun b hb => hn (env.frf b hb), hk, env.bare⟩
  refine codeAny_mono (F.run A outer s (hid H t) args us vs _ E hr env2 hb hv h) fun r s' hq => ?_
  cases r with
  | error e => exact hq
  | ok fl =>
    cases fl with
    | next => exact hq
    | brk => exact hq
    | cont => exact hq
    | ret u =>
      obtain ⟨v, H2, q1, q2, q3, q4, q5, q6⟩ := hq
      obtain ⟨z, its, n, hvs, hget⟩ := (show ObjOk P w H s.heap t (.lst xs) from env.hok t _ ht)
      have hf : t ∉ frs outer := fun hm => by
        rw [env.frf t hm] at ht
        cases ht
      have h2t : H2 t = none := q3.free t _ hget (hid_self H t) (by simp)
      have hget2 := q3.keep t _ hget (hid_self H t) hf (by simp)
      have bt : ∀ {b : Addr}, H b = none → b ≠ t := fun {b} hb e => by
        rw [e, ht] at hb
        cases hb
      refine ⟨v, upd H2 t (.lst xs), q1, q2, ⟨fun b o g1 g2 => q3.keep b o g1 (hn g2), fun b o g1 g2 => q3.slot b o g1 (hn g2), fun b o g1 g2 g3 => ?_, q3.there, fun b zs g => ?_, fun b o u g => ?_, fun b zs g => ?_⟩, fun a o ha => ?_, q5, q6 h2t⟩
      · rw [upd_ne (bt g2)]
        exact q3.free b o g1 (hn g2) g3
      · have e := nt g (by intro zs z; cases z)
        rw [upd_ne e]
        exact q3.tups b zs (by rw [hid_ne e]; exact g)
      · have e := nt g (by intro zs z; cases z)
        rw [upd_ne e]
        exact q3.frzs b o u (by rw [hid_ne e]; exact g)
      · have e := nt g (by intro zs z; cases z)
        rw [upd_ne e]
        exact q3.tbls b zs (by rw [hid_ne e]; exact g)
      · by_cases e : a = t
        · subst e
          rw [upd_same] at ha
          cases ha
          exact ⟨z, its, n, hvs, hget2⟩
        · rw [upd_ne e] at ha
          exact (q4 a o ha).stay (fun b u _ q => q) (fun b q => by rw [upd_ne (ne_of_none q h2t)]; exact q) fun b zs q => by rw [upd_ne (ne_of_none q h2t)]; exact q
theorem Def.frame {P : Program} {w : World} {K : PySem.W.Frag} {mg : Str → Option Value} {base : Heap} {x : Str} {k : Nat} {ps : List Str} {sp : Sp} (D : Def P w K mg base x k ps sp) : Def P w K mg base x k ps (spFr sp) := by
  obtain ⟨f, fd, h1, h2, h3, h4⟩ := D.ex
  exact ⟨f, fd, h1, h2, h3, h4.frame⟩
theorem on_len {ss : List Sn} {k : Int} {g : Bool} {f : Sn → Sn × List Int} {n : Nat} (h : StOk ss) (hn : 1 ≤ n) (hf : ∀ x, SeOk x → g = true → (f x).2.length ≤ n) : (Vbdlac.on ⟨ss⟩ k g f).2.length ≤ n := by
  unfold Vbdlac.on
  cases e : Vbdlac.sensorAt ⟨ss⟩ k with
  | none => exact hn
  | some x =>
    have hx : x ∈ ss := by
      unfold Vbdlac.sensorAt at e
      split at e
      · exact List.mem_of_getElem? e
      · cases e
    show (if g = false then _ else if (f x).1 = x then _ else _ : Vbdlac.St × List Int).2.length ≤ n
    by_cases hg : g = false
    · rw [if_pos hg]
      exact hn
    · rw [if_neg hg]
      have := hf x (h.2 x hx) (by simpa using hg)
      split <;> exact this
theorem face_len (s : Sn) : (Vbdlac.face s).length ≤ 20000 := by
  unfold Vbdlac.face
  cases Vbdlac.reading s <;> show (5 : Nat) ≤ 20000 <;> decide
theorem chn_len {c : Ch} (h : ChOk c) : (Vbdlac.channelNumbers c).length ≤ 9 := by
  have := h.wl
  show ([_, _, _] ++ (_ :: c.window)).length ≤ 9
  simp
  omega
theorem step_len {ss : List Sn} (h : StOk ss) (c : Vbdlac.Call) : (Vbdlac.step ⟨ss⟩ c).2.length ≤ 20000 := by
  cases c with
  | sensor w t m z d lo hi l =>
    rw [step_sensor]
    repeat' split
    all_goals show (1 : Nat) ≤ 20000
    all_goals decide
  | limits s a b c => exact on_len h (by decide) fun x hx _ => by show (1 : Nat) ≤ 20000; decide
  | feed s m n => exact on_len h (by decide) fun x hx _ => face_len _
  | feeds s l => exact on_len h (by decide) fun x hx _ => face_len _
  | reading s => exact on_len h (by decide) fun x hx _ => face_len _
  | exact s c n =>
    refine on_len h (by decide) fun x hx hg => ?_
    rw [Bool.and_eq_true] at hg
    exact Nat.le_trans (told_len ((exact_bound hx.f (channel_ok hx c) (count_mk hg.2)).mono (by decide))) (by decide)
  | value s c n => exact on_len h (by decide) fun x hx _ => by show (2 : Nat) ≤ 20000; decide
  | correct s c c1 v1 c2 v2 =>
    refine on_len h (by decide) fun x hx hg => ?_
    rw [correct_eq]
    show (1 : Nat) ≤ 20000
    decide
  | drift s c =>
    refine on_len h (by decide) fun x hx hg => ?_
    have e1 := told_len ((channel_ok hx c).g.mono (show 40 ≤ 1000 by decide))
    have e2 := told_len ((channel_ok hx c).o.mono (show 40 ≤ 1000 by decide))
    show (Vbdlac.told _ ++ Vbdlac.told _).length ≤ 20000
    rw [List.length_append]
    omega
  | reference s v => exact on_len h (by decide) fun x hx _ => by show (1 : Nat) ≤ 20000; decide
  | least s c n m v => exact on_len h (by decide) fun x hx _ => by show (1 : Nat) ≤ 20000; decide
  | middle l =>
    unfold Vbdlac.step
    dsimp only
    split
    · show (1 : Nat) ≤ 20000
      decide
    · show (2 : Nat) ≤ 20000
      decide
  | line l0 =>
    unfold Vbdlac.step
    dsimp only
    split
    · show (1 : Nat) ≤ 20000
      decide
    · rename_i hn
      have hn := (Bool.not_eq_false _).mp hn
      simp only [Bool.and_eq_true, decide_eq_true_eq] at hn
      split
      · show (1 : Nat) ≤ 20000
        decide
      · rename_i a b e
        obtain ⟨b1, b2⟩ := line_bound (pts_ok hn.2.2) hn.1 hn.2.1 e
        have e1 := told_len (b1.mono (show 60 ≤ 1000 by decide))
        have e2 := told_len (b2.mono (show 200 ≤ 1000 by decide))
        show (Vbdlac.told _ ++ Vbdlac.told _).length ≤ 20000
        rw [List.length_append]
        omega
  | state s =>
    refine on_len h (by decide) fun x hx hg => ?_
    have e1 := chn_len hx.a
    have e2 := chn_len hx.b
    have ll : (Vbdlac.limitNumbers x.limits).length = 7 := by cases x.limits <;> rfl
    show (Vbdlac.channelNumbers _ ++ (Vbdlac.channelNumbers _ ++ (_ :: _))).length ≤ 20000
    rw [List.length_append, List.length_append, List.length_cons, ll]
    omega
  | clear s => exact on_len h (by decide) fun x hx _ => by show (1 : Nat) ≤ 20000; decide
  | count =>
    show (1 : Nat) ≤ 20000
    decide
  | gap s =>
    refine on_len h (by decide) fun x hx hg => ?_
    show (match Vbdlac.trusted x.form x.a, Vbdlac.trusted x.form x.b with | some u, some v => [1, Vbdlac.far u v] | _, _ => [0, 0] : List Int).length ≤ 20000
    split <;> show (2 : Nat) ≤ 20000 <;> decide
theorem stepRaw_len {ss : List Sn} (h : StOk ss) (ns : List Int) : (Vbdlac.stepRaw ⟨ss⟩ ns).2.length ≤ 20000 := by
  unfold Vbdlac.stepRaw
  split
  · show (1 : Nat) ≤ 20000
    decide
  · exact step_len h _
def spAt (C : Cs) : Nat → Sp
  | 0 => sp_call_sensor C
  | 1 => sp_call_limits C
  | 2 => sp_call_feed C
  | 3 => sp_call_feeds C
  | 4 => sp_call_reading C
  | 5 => sp_call_exact C
  | 6 => sp_call_value C
  | 7 => sp_call_correct C
  | 8 => sp_call_drift C
  | 9 => sp_call_reference C
  | 10 => sp_call_least C
  | 11 => sp_call_middle C
  | 12 => sp_call_line C
  | 13 => sp_call_state C
  | 14 => sp_call_clear C
  | 15 => sp_call_count C
  | 16 => sp_call_gap C
  | _ => fun _ _ _ _ => False
def CallTab (P : Program) (w : World) (K : PySem.W.Frag) (mg : Str → Option Value) (base : Heap) (C : Cs) : Prop := ∀ (i : Nat) (p : Addr), C.cs[i]? = some p → FnV P w K mg base 14 (.ref p) (spAt C i)
theorem len0 {r : List Int} (h : r.length = 0) : r = [] := match r, h with | [], _ => rfl
theorem len1 {r : List Int} (h : r.length = 1) : ∃ a, r = [a] := match r, h with | [a], _ => ⟨a, rfl⟩
theorem len2 {r : List Int} (h : r.length = 2) : ∃ a b, r = [a, b] := match r, h with | [a, b], _ => ⟨a, b, rfl⟩
theorem len3 {r : List Int} (h : r.length = 3) : ∃ a b c, r = [a, b, c] := match r, h with | [a, b, c], _ => ⟨a, b, c, rfl⟩
theorem len4 {r : List Int} (h : r.length = 4) : ∃ a b c d, r = [a, b, c, d] := match r, h with | [a, b, c, d], _ => ⟨a, b, c, d, rfl⟩
theorem len5 {r : List Int} (h : r.length = 5) : ∃ a b c d e, r = [a, b, c, d, e] := match r, h with | [a, b, c, d, e], _ => ⟨a, b, c, d, e, rfl⟩
theorem len6 {r : List Int} (h : r.length = 6) : ∃ a b c d e f, r = [a, b, c, d, e, f] := match r, h with | [a, b, c, d, e, f], _ => ⟨a, b, c, d, e, f, rfl⟩
theorem cons1 {r : List Int} (h : 0 < r.length) : ∃ a L, r = a :: L := match r, h with | a :: L, _ => ⟨a, L, rfl⟩
theorem cons2 {r : List Int} (h : 1 < r.length) : ∃ a b L, r = a :: b :: L := match r, h with | a :: b :: L, _ => ⟨a, b, L, rfl⟩
theorem cons8 {r : List Int} (h : 7 < r.length) : ∃ a b c d e f g k L, r = a :: b :: c :: d :: e :: f :: g :: k :: L := match r, h with | a :: b :: c :: d :: e :: f :: g :: k :: L, _ => ⟨a, b, c, d, e, f, g, k, L, rfl⟩
section
variable {P : Program} {w : World} {K : PySem.W.Frag} {mg : Str → Option Value} {base : Heap} {C : Cs}
theorem ok_answer_call {f : Addr} {fd : FuncData} (F : Fun K "answer_call" "answer_call" s_answer_call f fd) (T : Txt K mg C) (D_has_form : Def P w K mg base "has_form" 1 ["numbers"] (sp_has_form C)) (D_listed_things : Def P w K mg base "listed_things" 1 ["numbers"] (sp_listed_things C)) (D_plain_numbers : Def P w K mg base "plain_numbers" 1 ["numbers"] (sp_plain_numbers C)) (CT : CallTab P w K mg base C) : FnOk P w K mg base CX0 15 f fd ["sensors", "numbers"] (sp_answer_call C) := by
  refine F.ok sc_answer_call (fun _ _ _ _ h => h.1) (fun cdv A outer s H vs Q E hr h => ?_)
  obtain ⟨-, h⟩ := h
  obtain ⟨ls, p, as, ss, ns, rfl, R, ok, hp, np, sml, k⟩ := h
  refine ⟨_, (pss_cons (ps_if (pt_not (pt_val (x_call D_has_form (hr.mono (by decide)) rfl (pa_cons (pv 1) pa_nil)))) (pss_one (ps_ret (x_lst (pa_cons (x_gc rfl T.c_NO_CALL) pa_nil)))) pss_nil) (pss_one (ps_ret (x_callv (k := 14) (hr.mono (by decide)) (x_ixt (x_gc rfl T.c_CALLS) (x_ixl (pv 1) pe_int)) (pa_cons (pv 0) (pa_cons (x_call D_plain_numbers (hr.mono (by decide)) rfl (pa_cons (pv 1) pa_nil)) (pa_cons (x_call D_listed_things (hr.mono (by decide)) rfl (pa_cons (pv 1) pa_nil)) pa_nil))))))), ?_⟩
  refine ⟨_, rfl, rfl, p, ns, rfl, hp, sml, _, rfl, ifCN (fun h1 => ⟨small_len (by simp), lst1 (k.spL R (l := [-100]) ?_)⟩) (fun h1 => ?_)⟩
  · unfold Vbdlac.stepRaw
    rw [decode_none h1]
  cases ns with
  | nil => cases h1
  | cons n r =>
    obtain ⟨n0, n17⟩ := hasForm_place h1
    obtain ⟨q, hq⟩ := some_at (l := C.cs) (i := n.toNat) (by rw [T.callsLen]; omega)
    refine ⟨_, rfl, _, IxL.k0 hp, .ref q, ⟨C.ca, _, n, rfl, rfl, T.callsT.sq H, at_of (j := n.toNat) (by omega) (by rw [List.getElem?_map, hq]; rfl)⟩, spAt C n.toNat, CT _ q hq, ?_⟩
    refine ⟨_, rfl, _, rfl, rfl, p, n, r, rfl, hp, sml, h1, fun g H2 N2 => ⟨_, rfl, rfl, p, n, r, rfl, N2.same _ _ hp, sml, h1, fun li H3 s3 nli hA hB => ?_⟩⟩
    have t3 : Same H H3 := N2.same.trans s3
    have R3 := R.same t3
    have k3 := k.at t3
    have hg3 := s3 _ _ N2.at_
    have ne : li ≠ ls := fun e => by
      rw [e, N2.same _ _ R.lst] at nli
      cases nli
    have hn : n = 0 ∨ n = 1 ∨ n = 2 ∨ n = 3 ∨ n = 4 ∨ n = 5 ∨ n = 6 ∨ n = 7 ∨ n = 8 ∨ n = 9 ∨ n = 10 ∨ n = 11 ∨ n = 12 ∨ n = 13 ∨ n = 14 ∨ n = 15 ∨ n = 16 := by omega
    rcases hn with rfl | rfl | rfl | rfl | rfl | rfl | rfl | rfl | rfl | rfl | rfl | rfl | rfl | rfl | rfl | rfl | rfl
    · obtain ⟨g1, g2⟩ := hasForm_list (n := 7) (k := 2) h1 rfl (by decide)
      obtain ⟨w, t, m, z, d, lo, hi, cnt, L, rfl⟩ := cons8 g1
      have gl : cnt * ((2 : Nat) : Int) = (L.length : Int) := by
        have g2 : cnt * ((2 : Nat) : Int) = (((L.length + 8 : Nat)) : Int) - ((7 : Nat) : Int) - 1 := g2
        omega
      have ed : Vbdlac.decode (0 :: w :: t :: m :: z :: d :: lo :: hi :: cnt :: L) = some (.sensor w t m z d lo hi L) := by
        show (Vbdlac.listOf 2 (cnt :: L)).map _ = _
        rw [listOf_mk (by decide) gl]
        rfl
      unfold Vbdlac.stepRaw at k3
      rw [ed] at k3
      exact ⟨rfl, ls, g, li, as, ss, [w, t, m, z, d, lo, hi], .sensor w t m z d lo hi L, rfl, R3, ok, hg3, ne, ⟨w, t, m, z, d, lo, hi, L, rfl, hA rfl, rfl⟩, k3⟩
    · obtain ⟨a, b, c, d, rfl⟩ := len4 (hasForm_plain (n := 4) h1 rfl)
      exact ⟨rfl, ls, g, li, as, ss, [a, b, c, d], .limits a b c d, rfl, R3, ok, hg3, ne, rfl, k3⟩
    · obtain ⟨a, b, c, rfl⟩ := len3 (hasForm_plain (n := 3) h1 rfl)
      exact ⟨rfl, ls, g, li, as, ss, [a, b, c], .feed a b c, rfl, R3, ok, hg3, ne, rfl, k3⟩
    · obtain ⟨g1, g2⟩ := hasForm_list (n := 1) (k := 2) h1 rfl (by decide)
      obtain ⟨s, cnt, L, rfl⟩ := cons2 g1
      have gl : cnt * ((2 : Nat) : Int) = (L.length : Int) := by
        have g2 : cnt * ((2 : Nat) : Int) = (((L.length + 2 : Nat)) : Int) - ((1 : Nat) : Int) - 1 := g2
        omega
      have ed : Vbdlac.decode (3 :: s :: cnt :: L) = some (.feeds s L) := by
        show (Vbdlac.listOf 2 (cnt :: L)).map _ = _
        rw [listOf_mk (by decide) gl]
        rfl
      unfold Vbdlac.stepRaw at k3
      rw [ed] at k3
      exact ⟨rfl, ls, g, li, as, ss, [s], .feeds s L, rfl, R3, ok, hg3, ne, ⟨s, L, rfl, by omega, hA rfl, rfl⟩, k3⟩
    · obtain ⟨a, rfl⟩ := len1 (hasForm_plain (n := 1) h1 rfl)
      exact ⟨rfl, ls, g, li, as, ss, [a], .reading a, rfl, R3, ok, hg3, ne, rfl, k3⟩
    · obtain ⟨a, b, c, rfl⟩ := len3 (hasForm_plain (n := 3) h1 rfl)
      exact ⟨rfl, ls, g, li, as, ss, [a, b, c], .exact a b c, rfl, R3, ok, hg3, ne, rfl, k3⟩
    · obtain ⟨a, b, c, rfl⟩ := len3 (hasForm_plain (n := 3) h1 rfl)
      exact ⟨rfl, ls, g, li, as, ss, [a, b, c], .value a b c, rfl, R3, ok, hg3, ne, rfl, k3⟩
    · obtain ⟨a, b, c, d, e, f, rfl⟩ := len6 (hasForm_plain (n := 6) h1 rfl)
      exact ⟨rfl, ls, g, li, as, ss, [a, b, c, d, e, f], .correct a b c d e f, rfl, R3, ok, hg3, ne, rfl, k3⟩
    · obtain ⟨a, b, rfl⟩ := len2 (hasForm_plain (n := 2) h1 rfl)
      exact ⟨rfl, ls, g, li, as, ss, [a, b], .drift a b, rfl, R3, ok, hg3, ne, rfl, k3⟩
    · obtain ⟨a, b, rfl⟩ := len2 (hasForm_plain (n := 2) h1 rfl)
      exact ⟨rfl, ls, g, li, as, ss, [a, b], .reference a b, rfl, R3, ok, hg3, ne, rfl, k3⟩
    · obtain ⟨a, b, c, d, e, rfl⟩ := len5 (hasForm_plain (n := 5) h1 rfl)
      exact ⟨rfl, ls, g, li, as, ss, [a, b, c, d, e], .least a b c d e, rfl, R3, ok, hg3, ne, rfl, k3⟩
    · obtain ⟨g1, g2⟩ := hasForm_list (n := 0) (k := 1) h1 rfl (by decide)
      obtain ⟨cnt, L, rfl⟩ := cons1 g1
      have gl : cnt * ((1 : Nat) : Int) = (L.length : Int) := by
        have g2 : cnt * ((1 : Nat) : Int) = (((L.length + 1 : Nat)) : Int) - ((0 : Nat) : Int) - 1 := g2
        omega
      have ed : Vbdlac.decode (11 :: cnt :: L) = some (.middle L) := by
        show (Vbdlac.listOf 1 (cnt :: L)).map _ = _
        rw [listOf_mk (by decide) gl]
        rfl
      unfold Vbdlac.stepRaw at k3
      rw [ed] at k3
      exact ⟨rfl, ls, g, li, as, ss, [], .middle L, rfl, R3, ok, hg3, ne, ⟨L, rfl, hB (by decide), rfl⟩, k3⟩
    · obtain ⟨g1, g2⟩ := hasForm_list (n := 0) (k := 2) h1 rfl (by decide)
      obtain ⟨cnt, L, rfl⟩ := cons1 g1
      have gl : cnt * ((2 : Nat) : Int) = (L.length : Int) := by
        have g2 : cnt * ((2 : Nat) : Int) = (((L.length + 1 : Nat)) : Int) - ((0 : Nat) : Int) - 1 := g2
        omega
      have ed : Vbdlac.decode (12 :: cnt :: L) = some (.line L) := by
        show (Vbdlac.listOf 2 (cnt :: L)).map _ = _
        rw [listOf_mk (by decide) gl]
        rfl
      unfold Vbdlac.stepRaw at k3
      rw [ed] at k3
      exact ⟨rfl, ls, g, li, as, ss, [], .line L, rfl, R3, ok, hg3, ne, ⟨L, rfl, hA rfl, rfl⟩, k3⟩
    · obtain ⟨a, rfl⟩ := len1 (hasForm_plain (n := 1) h1 rfl)
      exact ⟨rfl, ls, g, li, as, ss, [a], .state a, rfl, R3, ok, hg3, ne, rfl, k3⟩
    · obtain ⟨a, rfl⟩ := len1 (hasForm_plain (n := 1) h1 rfl)
      exact ⟨rfl, ls, g, li, as, ss, [a], .clear a, rfl, R3, ok, hg3, ne, rfl, k3⟩
    · obtain rfl := len0 (hasForm_plain (n := 0) h1 rfl)
      exact ⟨rfl, ls, g, li, as, ss, [], .count, rfl, R3, ok, hg3, ne, rfl, k3⟩
    · obtain ⟨a, rfl⟩ := len1 (hasForm_plain (n := 1) h1 rfl)
      exact ⟨rfl, ls, g, li, as, ss, [a], .gap a, rfl, R3, ok, hg3, ne, rfl, k3⟩
end
end Tw
set_option Elab.async false
set_option linter.all false
set_option maxRecDepth 100000
set_option maxHeartbeats 2000000
namespace Tw
open PySem PySem.Spec PyProof.Rows L2 L3
def sp_answers (K : PySem.W.Frag) : Sp := mkSp 1 fun vs H Q => ∃ (a : Addr) (ns : List Int), vs = [.ref a] ∧ SqL K H a (ns.map V.int) ∧ ns.length ≤ 17000 ∧ (∀ n ∈ ns, -1000000000000000000 ≤ n ∧ n ≤ 1000000000000000000) ∧ PyVbdlac.answers_asked ns = true ∧
  ∀ (H' : Hp) (p : Addr), H' p = some (.lst ((PyVbdlac.answers ns).map V.int)) → Q (.ref p) H'
theorem hid_up {H X : Hp} {t : Addr} (h : ∀ b, b ≠ t → X b = H b) (hn : H t = none) : hid X t = H := by
  funext b
  by_cases e : b = t
  · rw [e, hid_self, hn]
  · rw [hid_ne e, h b e]
section
variable {P : Program} {w : World} {K : PySem.W.Frag} {mg : Str → Option Value} {base : Heap} {C : Cs}
theorem ok_answers {f : Addr} {fd : FuncData} (F : Fun K "answers" "answers" s_answers f fd) (T : Txt K mg C) (D_answer_call : Def P w K mg base "answer_call" 15 ["sensors", "numbers"] (sp_answer_call C)) : FnOk P w K mg base CX0 16 f fd ["calls"] (sp_answers K) := by
  refine F.ok sc_answers (fun _ _ _ _ h => h.1) (fun cdv A outer s H vs Q E hr h => ?_)
  obtain ⟨-, h⟩ := h
  replace D_answer_call := Def.frame D_answer_call
  obtain ⟨a, ns, rfl, hSq, hlen, hb, hask, k⟩ := h
  obtain ⟨rs0, hpar, hrs, hans⟩ := asked_runs hask
  refine ⟨_, (pss_cons (ps_set (i := 1) sc_answers.nd rfl (Or.inl rfl) (x_lst pa_nil)) (pss_cons (ps_set (i := 2) sc_answers.nd rfl (Or.inl rfl) (x_lst pa_nil)) (pss_cons (ps_set (i := 3) sc_answers.nd rfl (Or.inl rfl) pe_int) (pss_cons (ps_while PassesOwn.never (pt_cmpR op_lt (pv 3) (pe_callB x_callen (by rfl) T.b_len boot_len' (pa_cons (pv 0) pa_nil)) (nomark _)) (pss_cons (ps_set (i := 4) sc_answers.nd rfl (Or.inl rfl) (pe_op op_add (pv 3) pe_int)) (pss_cons (ps_set (i := 3) sc_answers.nd rfl (Or.inl rfl) (pe_op op_add (pv 4) (x_ixl (pv 0) (pe_op op_add (pv 3) pe_int)))) (pss_cons (ps_set (i := 5) sc_answers.nd rfl (Or.inl rfl) (x_call D_answer_call (hr.mono (by decide)) rfl (pa_cons (pv 1) (pa_cons (x_slice (pv 0) (po_some (pv 4)) (po_some (pv 3))) pa_nil)))) (pss_cons (ps_expr (pe_bm PySem.F.plainAttrs_list PySem.F.slot_list_append PySem.F.type_list_append mt_append (pv 2) (pa_cons (pe_callB x_callen (by rfl) T.b_len boot_len' (pa_cons (pv 5) pa_nil)) pa_nil))) (pss_one (ps_expr (pe_bm PySem.F.plainAttrs_list PySem.F.slot_list_extend PySem.F.type_list_extend mt_extend (pv 2) (pa_cons (pv 5) pa_nil))))))))) (pss_one (ps_ret (pv 2))))))), ?_⟩
  refine ⟨small_len (by simp), fun ls H1 N1 => ⟨small_len (by simp), fun tl H2 N2 => ?_⟩⟩
  have keepSq : ∀ {H' : Hp}, (∀ b o, H b = some o → kind o = 0 → H' b = some o) → SqL K H' a (ns.map V.int) := fun {H'} kp => by
    rcases hSq with (h | ⟨o, h⟩) | h
    · exact .inl (.inl (kp _ _ h rfl))
    · exact .inl (.inr ⟨o, kp _ _ h rfl⟩)
    · exact .inr h
  have nls : H ls = none := N1.fresh
  have ntl : H tl = none := N1.same.free N2.fresh
  have lt : ls ≠ tl := ne_of_none N1.at_ N2.fresh
  refine while_by (fun σ H' => ∃ (dn rest : List Int) (rs : List (List Int)) (as : List SA) (ss : List Sn) (U : List Int) (v4 v5 : Option V), ns = dn ++ rest ∧ Parsed rest rs ∧ σ = [some (.ref a), some (.ref ls), some (.ref tl), some (.int (dn.length : Int)), v4, v5] ∧ Rep C (hid H' tl) ls as ss ∧ StOk ss ∧ H' tl = some (.lst (U.map V.int)) ∧ (∀ b o, H b = some o → kind o = 0 → H' b = some o) ∧ U ++ runR ⟨ss⟩ rs = PyVbdlac.answers ns ∧ U.length + 20001 * rs.length ≤ 8000400)
    (fun σ _ => match σ with | [_, _, _, some (.int z), _, _] => ns.length - z.toNat | _ => 0) ?_ ?_ ?_
  · refine ⟨[], ns, rs0, [], [], [], none, none, rfl, hpar, rfl, ⟨?_, rfl, fun i a s h => by simp at h, fun i j a b _ h => by simp at h⟩, ⟨by decide, fun s hs => by cases hs⟩, N2.at_, fun b o h _ => N2.same _ _ (N1.same _ _ h), hans.symm, ?_⟩
    · rw [hid_ne lt]
      exact N2.same _ _ N1.at_
    · show 0 + 20001 * rs0.length ≤ 8000400
      omega
  · rintro σ H' ⟨dn, rest, rs, as, ss, U, v4, v5, hns, hP, rfl, R, ok, hU, kp, hrun, hlenU⟩
    have hS := keepSq kp
    have hnl : ns.length = dn.length + rest.length := by rw [hns, List.length_append]
    refine ⟨_, rfl, _, rfl, ns.length, ⟨a, _, rfl, .inl hS, List.length_map ..⟩, _, _, rfl, rfl, _, rfl, ifB (fun hlt => ?_) (fun hge => ?_)⟩
    · have hlt : (dn.length : Int) < (ns.length : Int) := hlt
      rcases hP.inv with ⟨e1, e2⟩ | ⟨row, rest', rs', e1, e2, hP'⟩
      · rw [e1, List.length_nil] at hnl
        omega
      subst e1 e2
      have hrl : (0 :: (row.length : Int) :: (row ++ rest')).length = row.length + rest'.length + 2 := by
        rw [List.length_cons, List.length_cons, List.length_append]
      rw [hrl] at hnl
      refine ⟨_, rfl, _, _, rfl, rfl, ?_⟩
      have hget : (ns.map V.int)[dn.length + 1]? = some (.int (row.length : Int)) := by
        rw [hns, List.getElem?_map, List.getElem?_append_right (by omega), Nat.add_sub_cancel_left]
        rfl
      refine ⟨_, rfl, _, rfl, _, rfl, _, _, rfl, rfl, _, ⟨a, _, _, rfl, rfl, hS, at_of (j := dn.length + 1) (by omega) hget⟩, _, _, rfl, rfl, ?_⟩
      refine ⟨_, rfl, _, rfl, _, rfl, _, rfl, _, rfl, _, rfl, _, ⟨a, rfl, hS⟩, fun p H3 N3 => ?_⟩
      have ecut : cutV (ns.map V.int) (some ((dn.length : Int) + 2)) (some ((dn.length : Int) + 2 + (row.length : Int))) = row.map V.int := by
        rw [show (dn.length : Int) + 2 = ((dn.length + 2 : Nat) : Int) by omega, show ((dn.length + 2 : Nat) : Int) + (row.length : Int) = ((dn.length + 2 + row.length : Nat) : Int) by omega, cut_mid _ (by omega) (by rw [List.length_map]; omega), hns, List.map_append, List.drop_append, List.drop_eq_nil_of_le (by rw [List.length_map]; omega), List.length_map, Nat.add_sub_cancel_left, List.nil_append, Nat.add_sub_cancel_left]
        show ((row ++ rest').map V.int).take row.length = _
        rw [List.map_append, List.take_append_of_le_length (by rw [List.length_map]; omega), List.take_of_length_le (by rw [List.length_map]; omega)]
      have N3' : New H' p (.lst (row.map V.int)) H3 := by
        rw [← ecut]
        exact N3
      have ptl : p ≠ tl := Ne.symm (ne_of_none hU N3'.fresh)
      have hU3 := N3'.same _ _ hU
      have R3 : Rep C (hid H3 tl) ls as ss := R.same (hid_same N3'.same)
      have pls : p ≠ ls := Ne.symm (ne_of_none (hid_some R.lst).2 N3'.fresh)
      refine ⟨tl, U.map V.int, hU3, rfl, ls, p, as, ss, row, rfl, R3, ok, ?_, pls, ⟨by omega, fun n hn => hb n ?_⟩, ?_⟩
      · rw [hid_ne ptl]
        exact N3'.at_
      · rw [hns]
        exact List.mem_append_right _ (List.mem_cons_of_mem _ (List.mem_cons_of_mem _ (List.mem_append_left _ hn)))
      · intro as' q H4 R4 keep4 hq nq n4
        have la := stepRaw_len ok row
        have oks := stepRaw_ok ok row
        have er : runR ⟨ss⟩ (row :: rs') = ((Vbdlac.stepRaw ⟨ss⟩ row).2.length : Int) :: ((Vbdlac.stepRaw ⟨ss⟩ row).2 ++ runR (Vbdlac.stepRaw ⟨ss⟩ row).1 rs') := rfl
        rw [er] at hrun
        generalize Vbdlac.stepRaw ⟨ss⟩ row = st at R4 hq la oks hrun
        have qtl : q ≠ tl := fun z => by
          rw [z, n4] at hq
          cases hq
        have h5q : upd H4 tl (.lst (U.map V.int)) q = some (.lst (st.2.map V.int)) := by
          rw [upd_ne qtl]
          exact hq
        have lu : U.length + 20001 * (rs'.length + 1) ≤ 8000400 := hlenU
        refine ⟨_, rfl, .inl ⟨rfl, _, SqL.of upd_same⟩, _, rfl, st.2.length, ⟨q, _, rfl, .inl (SqL.of h5q), List.length_map ..⟩, tl, _, _, rfl, rfl, upd_same, ?_, ?_⟩
        · rw [List.length_map, sizeLine_eq]
          omega
        refine ⟨_, rfl, .inl ⟨rfl, _, SqL.of upd_same⟩, _, rfl, tl, q, _, _, rfl, rfl, upd_same, (by rw [upd_ne qtl]; exact h5q), ?_, ?_⟩
        · rw [List.length_append, List.length_map, List.length_map, sizeLine_eq]
          show U.length + 1 + st.2.length ≤ _
          omega
        have el : (((dn ++ 0 :: (row.length : Int) :: row).length : Nat) : Int) = (dn.length : Int) + 2 + (row.length : Int) := by
          rw [List.length_append, List.length_cons, List.length_cons]
          omega
        refine ⟨⟨dn ++ 0 :: (row.length : Int) :: row, rest', rs', as', st.1.sensors, U ++ [(st.2.length : Int)] ++ st.2, some (.int ((dn.length : Int) + 2)), some (.ref q), ?_, hP', ?_, ?_, oks, ?_, fun b o hbo hk => ?_, ?_, ?_⟩, ?_⟩
        · rw [hns, List.append_assoc]
          rfl
        · rw [el]
          rfl
        · rw [hid_up (H := H4) (fun b e => by rw [upd_ne e, upd_ne e, upd_ne e]) n4]
          exact R4
        · rw [upd_same, List.map_append, List.map_append]
          rfl
        · have bt : b ≠ tl := ne_of_none hbo ntl
          have bl : b ≠ ls := ne_of_none hbo nls
          rw [upd_ne bt, upd_ne bt, upd_ne bt]
          exact keep4 b o bl (by rw [hid_ne bt]; exact N3'.same _ _ (kp b o hbo hk)) hk
        · rw [← hrun, List.append_assoc, List.append_assoc]
          rfl
        · rw [List.length_append, List.length_append]
          show U.length + 1 + st.2.length + 20001 * rs'.length ≤ 8000400
          omega
        · show ns.length - ((dn.length : Int) + 2 + (row.length : Int)).toNat < ns.length - ((dn.length : Int)).toNat
          omega
    · have hge : ¬ (dn.length : Int) < (ns.length : Int) := hge
      rcases hP.inv with ⟨e1, e2⟩ | ⟨row, rest', rs', e1, e2, hP'⟩
      · refine ⟨_, rfl, k H' tl ?_⟩
        rw [hU, ← hrun, e2]
        show some (HO.lst (U.map V.int)) = some (HO.lst ((U ++ []).map V.int))
        rw [List.append_nil]
      · rw [e1, List.length_cons] at hnl
        omega
  · intro σ H' Q1 Q2 hm ⟨v1, h1, v2, h2, n, h3, i, j, h4, h5, b, h6, h7⟩
    exact ⟨v1, h1, v2, h2, n, h3, i, j, h4, h5, b, h6, hm _ _ h7⟩
end
end Tw
set_option Elab.async false
set_option linter.all false
set_option maxRecDepth 100000
set_option maxHeartbeats 2000000
namespace Tw
open PySem PySem.Spec PyProof.Rows L2 L3
structure DefF (K : PySem.W.Frag) (mg : Str → Option Value) (x q : Str) (st : Stmt) (f : Addr) : Prop where
  mg : mg x = some (.ref f)
  kp : PySem.W.keepIn K (.ref f) = true
  ex : ∃ fd, Fun K x q st f fd
structure MetF (K : PySem.W.Frag) (C : Addr) (m q : Str) (st : Stmt) : Prop where
  ex : ∃ f fd, Meth K C m f ∧ Fun K m q st f fd
structure MakF (K : PySem.W.Frag) (mg : Str → Option Value) (x : Str) (C : Addr) (q : Str) (st : Stmt) : Prop where
  ex : ∃ f fd, Mk K C f ∧ mg x = some (.ref C) ∧ Fun K "__init__" q st f fd
section
variable {P : Program} {w : World} {K : PySem.W.Frag} {mg : Str → Option Value} {base : Heap} {x q : Str} {st : Stmt} {f C : Addr} {k : Nat} {ps : List Str} {sp : Sp}
abbrev Bnd (x q : Str) (st : Stmt) (ps : List Str) : Prop := ∀ (kV doc pm : Value) (an : Option Addr) (cdv ct : Value) (us : List Value), us.length = ps.length → bindArgs (PySem.W.fnOf x q (defArgs st) (defBody st) (defScope st) .none kV doc pm an cdv ct) ⟨us, []⟩ = pure (ps.zip us)
theorem DefF.d (F : DefF K mg x q st f) (hb : Bnd x q st ps) (ok : ∀ fd, Fun K x q st f fd → FnOk P w K mg base CX0 k f fd ps sp) : Def P w K mg base x k ps sp := by
  obtain ⟨fd, F0⟩ := F.ex
  exact ⟨f, fd, F.mg, F.kp, F0.binds hb, ok fd F0⟩
theorem DefF.v (F : DefF K mg x q st f) (hb : Bnd x q st ps) (ok : ∀ fd, Fun K x q st f fd → FnOk P w K mg base CX0 k f fd ps sp) (h : k ≤ 14) : FnV P w K mg base 14 (.ref f) sp := by
  obtain ⟨fd, F0⟩ := F.ex
  exact ⟨f, fd, ps, rfl, F.kp, F0.binds hb, (ok fd F0).mono h⟩
theorem MetF.d (F : MetF K C x q st) (c : Cls K C) (hb : Bnd x q st ps) (ok : ∀ f fd, Fun K x q st f fd → FnOk P w K mg base CX0 k f fd ps sp) : MethD P w K mg base C x k ps sp := by
  obtain ⟨f, fd, M, F0⟩ := F.ex
  exact ⟨f, fd, c, M, F0.binds hb, ok f fd F0⟩
theorem MakF.d {y : Str} (F : MakF K mg y C q st) (hb : Bnd "__init__" q st ps) (ok : ∀ f fd, Fun K "__init__" q st f fd → FnOk P w K mg base CX0 k f fd ps sp) : MakeD P w K mg base y C k ps sp := by
  obtain ⟨f, fd, M, hm, F0⟩ := F.ex
  exact ⟨f, fd, M, hm, F0.binds hb, ok f fd F0⟩
theorem keep_fn {oc : Value} {od : Option Addr} {fd : FuncData} {osl : Array (Option Value)} (l : K.lookup f = some ⟨oc, od, .func fd, osl⟩) : PySem.W.keepIn K (.ref f) = true := by
  simp only [PySem.W.keepIn, l]
theorem mk_def {h : Heap} {oc : Value} {od an : Option Addr} {osl : Array (Option Value)} {kV doc pm cdv ct : Value} (X : K.In h) (G : h.Ns mainGlobals mg) (a : PySem.W.nsIn K mainGlobals x = some (some (.ref f)))
    (l : K.lookup f = some ⟨oc, od, .func (PySem.W.fnOf x q (defArgs st) (defBody st) (defScope st) .none kV doc pm an cdv ct), osl⟩) (c : PySem.W.codeIn K cdv q = true) : DefF K mg x q st f :=
  ⟨PySem.W.mg_of X G a, keep_fn l, _, fun_mk l c (keep_fn l)⟩
theorem mk_met {oc : Value} {od an : Option Addr} {osl : Array (Option Value)} {kV doc pm cdv ct : Value} (a : PySem.W.findIn K (.ref C) x = some (some (.ref f))) (i : PySem.W.isFn K (.ref f) = true)
    (l : K.lookup f = some ⟨oc, od, .func (PySem.W.fnOf x q (defArgs st) (defBody st) (defScope st) .none kV doc pm an cdv ct), osl⟩) (c : PySem.W.codeIn K cdv q = true) : MetF K C x q st :=
  ⟨f, _, ⟨a, i, keep_fn l⟩, fun_mk l c (keep_fn l)⟩
theorem mk_mak {h : Heap} {y : Str} {oc : Value} {od an : Option Addr} {osl : Array (Option Value)} {kV doc pm cdv ct : Value} (X : K.In h) (G : h.Ns mainGlobals mg) (aC : PySem.W.nsIn K mainGlobals y = some (some (.ref C))) (m : PySem.W.makesIn K C = true) (kc : PySem.W.keepIn K (.ref C) = true)
    (a : PySem.W.findIn K (.ref C) "__init__" = some (some (.ref f))) (i : PySem.W.isFn K (.ref f) = true)
    (l : K.lookup f = some ⟨oc, od, .func (PySem.W.fnOf "__init__" q (defArgs st) (defBody st) (defScope st) .none kV doc pm an cdv ct), osl⟩) (c : PySem.W.codeIn K cdv q = true) : MakF K mg y C q st :=
  ⟨f, _, ⟨m, a, i, kc⟩, PySem.W.mg_of X G aC, fun_mk l c (keep_fn l)⟩
theorem no_at {y : Str} (h : PySem.W.findIn K (.ref C) y = some none) : NoAttr K C y := h
theorem gc_int {h : Heap} {z : Int} {t : Tok} (X : K.In h) (G : h.Ns mainGlobals mg) (a : PySem.W.nsIn K mainGlobals x = some (some (.int z t))) : GC mg x (.int z) := ⟨_, PySem.W.mg_of X G a, t, rfl⟩
theorem gc_ref {h : Heap} {z : Addr} (X : K.In h) (G : h.Ns mainGlobals mg) (a : PySem.W.nsIn K mainGlobals x = some (some (.ref z))) : GC mg x (.ref z) := ⟨_, PySem.W.mg_of X G a, rfl⟩
theorem vals_ref : ∀ as : List Addr, Vals (as.map V.ref) (as.map Value.ref)
  | [] => .nil
  | a :: r => .cons rfl (vals_ref r)
theorem tup_refs {as : List Addr} {od : Option Addr} {n : Nat} {sl : Array (Option Value)} (l : K.lookup f = some ⟨.type "tuple", od, .seq (as.map Value.ref).toArray n, sl⟩) (h : as.length ≤ 1000) : TupK K f (as.map V.ref) :=
  ⟨_, _, n, l, rfl, rfl, small_len (by simp; omega), vals_ref as⟩
theorem tup_two {i j : Int} {t u : Tok} {od : Option Addr} {n : Nat} {sl : Array (Option Value)} (l : K.lookup f = some ⟨.type "tuple", od, .seq #[.int i t, .int j u] n, sl⟩) : TupK K f [.int i, .int j] :=
  ⟨_, _, n, l, rfl, rfl, small_len (by simp), .cons ⟨t, rfl⟩ (.cons ⟨u, rfl⟩ .nil)⟩
end
theorem forms_at {K : PySem.W.Frag} {p0 p1 p2 p3 p4 p5 p6 p7 p8 p9 p10 p11 p12 p13 p14 p15 p16 : Addr} (h0 : TupK K p0 [.int 7, .int 2]) (h1 : TupK K p1 [.int 4, .int 0]) (h2 : TupK K p2 [.int 3, .int 0]) (h3 : TupK K p3 [.int 1, .int 2]) (h4 : TupK K p4 [.int 1, .int 0]) (h5 : TupK K p5 [.int 3, .int 0]) (h6 : TupK K p6 [.int 3, .int 0]) (h7 : TupK K p7 [.int 6, .int 0]) (h8 : TupK K p8 [.int 2, .int 0]) (h9 : TupK K p9 [.int 2, .int 0]) (h10 : TupK K p10 [.int 5, .int 0]) (h11 : TupK K p11 [.int 0, .int 1]) (h12 : TupK K p12 [.int 0, .int 2]) (h13 : TupK K p13 [.int 1, .int 0]) (h14 : TupK K p14 [.int 1, .int 0]) (h15 : TupK K p15 [.int 0, .int 0]) (h16 : TupK K p16 [.int 1, .int 0]) : ∀ (i : Nat) (p : Addr), ([p0, p1, p2, p3, p4, p5, p6, p7, p8, p9, p10, p11, p12, p13, p14, p15, p16] : List Addr)[i]? = some p → TupK K p [.int ((forms.getD i (0, 0)).1 : Int), .int ((forms.getD i (0, 0)).2 : Int)] := by
  intro i p hp
  match i, hp with
  | 0, hp => cases hp; exact h0
  | 1, hp => cases hp; exact h1
  | 2, hp => cases hp; exact h2
  | 3, hp => cases hp; exact h3
  | 4, hp => cases hp; exact h4
  | 5, hp => cases hp; exact h5
  | 6, hp => cases hp; exact h6
  | 7, hp => cases hp; exact h7
  | 8, hp => cases hp; exact h8
  | 9, hp => cases hp; exact h9
  | 10, hp => cases hp; exact h10
  | 11, hp => cases hp; exact h11
  | 12, hp => cases hp; exact h12
  | 13, hp => cases hp; exact h13
  | 14, hp => cases hp; exact h14
  | 15, hp => cases hp; exact h15
  | 16, hp => cases hp; exact h16
  | i + 17, hp => simp at hp
structure Mod (K : PySem.W.Frag) (mg : Str → Option Value) (C : Cs) : Prop where
  T : Txt K mg C
  f_middle_one : ∃ f, DefF K mg "middle_one" "middle_one" s_middle_one f
  f_is_count : ∃ f, DefF K mg "is_count" "is_count" s_is_count f
  f_is_value : ∃ f, DefF K mg "is_value" "is_value" s_is_value f
  f_are_counts : ∃ f, DefF K mg "are_counts" "are_counts" s_are_counts f
  f_are_points : ∃ f, DefF K mg "are_points" "are_points" s_are_points f
  f_are_values : ∃ f, DefF K mg "are_values" "are_values" s_are_values f
  f_are_settings : ∃ f, DefF K mg "are_settings" "are_settings" s_are_settings f
  f_are_limits : ∃ f, DefF K mg "are_limits" "are_limits" s_are_limits f
  f_has_sensor : ∃ f, DefF K mg "has_sensor" "has_sensor" s_has_sensor f
  f_has_channel : ∃ f, DefF K mg "has_channel" "has_channel" s_has_channel f
  f_greatest_divisor : ∃ f, DefF K mg "greatest_divisor" "greatest_divisor" s_greatest_divisor f
  f_ratio : ∃ f, DefF K mg "ratio" "ratio" s_ratio f
  f_whole : ∃ f, DefF K mg "whole" "whole" s_whole f
  f_added : ∃ f, DefF K mg "added" "added" s_added f
  f_subtracted : ∃ f, DefF K mg "subtracted" "subtracted" s_subtracted f
  f_multiplied : ∃ f, DefF K mg "multiplied" "multiplied" s_multiplied f
  f_divided : ∃ f, DefF K mg "divided" "divided" s_divided f
  f_is_below : ∃ f, DefF K mg "is_below" "is_below" s_is_below f
  f_rounded_down : ∃ f, DefF K mg "rounded_down" "rounded_down" s_rounded_down f
  f_ratio_text : ∃ f, DefF K mg "ratio_text" "ratio_text" s_ratio_text f
  f_points_rise : ∃ f, DefF K mg "points_rise" "points_rise" s_points_rise f
  f_value_between : ∃ f, DefF K mg "value_between" "value_between" s_value_between f
  f_table_value : ∃ f, DefF K mg "table_value" "table_value" s_table_value f
  f_is_too_large : ∃ f, DefF K mg "is_too_large" "is_too_large" s_is_too_large f
  f_has_form : ∃ f, DefF K mg "has_form" "has_form" s_has_form f
  f_plain_numbers : ∃ f, DefF K mg "plain_numbers" "plain_numbers" s_plain_numbers f
  f_listed_things : ∃ f, DefF K mg "listed_things" "listed_things" s_listed_things f
  f_fitted_line : ∃ f, DefF K mg "fitted_line" "fitted_line" s_fitted_line f
  f_text_numbers : ∃ f, DefF K mg "text_numbers" "text_numbers" s_text_numbers f
  f_number_if_any : ∃ f, DefF K mg "number_if_any" "number_if_any" s_number_if_any f
  f_sensor_answer : ∃ f, DefF K mg "sensor_answer" "sensor_answer" s_sensor_answer f
  f_can_search : ∃ f, DefF K mg "can_search" "can_search" s_can_search f
  f_channel_state : ∃ f, DefF K mg "channel_state" "channel_state" s_channel_state f
  f_limits_state : ∃ f, DefF K mg "limits_state" "limits_state" s_limits_state f
  f_answer_call : ∃ f, DefF K mg "answer_call" "answer_call" s_answer_call f
  f_call_sensor : ∃ f, C.cs[0]? = some f ∧ DefF K mg "call_sensor" "call_sensor" s_call_sensor f
  f_call_limits : ∃ f, C.cs[1]? = some f ∧ DefF K mg "call_limits" "call_limits" s_call_limits f
  f_call_feed : ∃ f, C.cs[2]? = some f ∧ DefF K mg "call_feed" "call_feed" s_call_feed f
  f_call_feeds : ∃ f, C.cs[3]? = some f ∧ DefF K mg "call_feeds" "call_feeds" s_call_feeds f
  f_call_reading : ∃ f, C.cs[4]? = some f ∧ DefF K mg "call_reading" "call_reading" s_call_reading f
  f_call_exact : ∃ f, C.cs[5]? = some f ∧ DefF K mg "call_exact" "call_exact" s_call_exact f
  f_call_value : ∃ f, C.cs[6]? = some f ∧ DefF K mg "call_value" "call_value" s_call_value f
  f_call_correct : ∃ f, C.cs[7]? = some f ∧ DefF K mg "call_correct" "call_correct" s_call_correct f
  f_call_drift : ∃ f, C.cs[8]? = some f ∧ DefF K mg "call_drift" "call_drift" s_call_drift f
  f_call_reference : ∃ f, C.cs[9]? = some f ∧ DefF K mg "call_reference" "call_reference" s_call_reference f
  f_call_least : ∃ f, C.cs[10]? = some f ∧ DefF K mg "call_least" "call_least" s_call_least f
  f_call_middle : ∃ f, C.cs[11]? = some f ∧ DefF K mg "call_middle" "call_middle" s_call_middle f
  f_call_line : ∃ f, C.cs[12]? = some f ∧ DefF K mg "call_line" "call_line" s_call_line f
  f_call_state : ∃ f, C.cs[13]? = some f ∧ DefF K mg "call_state" "call_state" s_call_state f
  f_call_clear : ∃ f, C.cs[14]? = some f ∧ DefF K mg "call_clear" "call_clear" s_call_clear f
  f_call_count : ∃ f, C.cs[15]? = some f ∧ DefF K mg "call_count" "call_count" s_call_count f
  f_call_gap : ∃ f, C.cs[16]? = some f ∧ DefF K mg "call_gap" "call_gap" s_call_gap f
  m_Channel_value_by : MetF K C.ch "value_by" "Channel.value_by" s_Channel_value_by
  m_Channel_exact_value : MetF K C.ch "exact_value" "Channel.exact_value" s_Channel_exact_value
  m_Channel_whole_value : MetF K C.ch "whole_value" "Channel.whole_value" s_Channel_whole_value
  m_Channel_tells : MetF K C.ch "tells" "Channel.tells" s_Channel_tells
  m_Channel_told_value : MetF K C.ch "told_value" "Channel.told_value" s_Channel_told_value
  m_Channel_is_trusted : MetF K C.ch "is_trusted" "Channel.is_trusted" s_Channel_is_trusted
  m_Channel_latch : MetF K C.ch "latch" "Channel.latch" s_Channel_latch
  m_Channel_take : MetF K C.ch "take" "Channel.take" s_Channel_take
  m_Channel_take_out_of_range : MetF K C.ch "take_out_of_range" "Channel.take_out_of_range" s_Channel_take_out_of_range
  m_Channel_take_in_range : MetF K C.ch "take_in_range" "Channel.take_in_range" s_Channel_take_in_range
  m_Channel_is_stuck : MetF K C.ch "is_stuck" "Channel.is_stuck" s_Channel_is_stuck
  m_Channel_is_good : MetF K C.ch "is_good" "Channel.is_good" s_Channel_is_good
  m_Channel_judge : MetF K C.ch "judge" "Channel.judge" s_Channel_judge
  m_Channel_forget : MetF K C.ch "forget" "Channel.forget" s_Channel_forget
  m_Channel_correct : MetF K C.ch "correct" "Channel.correct" s_Channel_correct
  m_Channel_can_have : MetF K C.ch "can_have" "Channel.can_have" s_Channel_can_have
  m_Channel_least_reaching : MetF K C.ch "least_reaching" "Channel.least_reaching" s_Channel_least_reaching
  m_Limits_watch : MetF K C.li "watch" "Limits.watch" s_Limits_watch
  m_Limits_alarm_by : MetF K C.li "alarm_by" "Limits.alarm_by" s_Limits_alarm_by
  m_Sensor_set_limits : MetF K C.se "set_limits" "Sensor.set_limits" s_Sensor_set_limits
  m_Sensor_alarm_now : MetF K C.se "alarm_now" "Sensor.alarm_now" s_Sensor_alarm_now
  m_Sensor_trusted_values : MetF K C.se "trusted_values" "Sensor.trusted_values" s_Sensor_trusted_values
  m_Sensor_reading_now : MetF K C.se "reading_now" "Sensor.reading_now" s_Sensor_reading_now
  m_Sensor_gap_now : MetF K C.se "gap_now" "Sensor.gap_now" s_Sensor_gap_now
  m_Sensor_sample : MetF K C.se "sample" "Sensor.sample" s_Sensor_sample
  m_Sensor_compare_channels : MetF K C.se "compare_channels" "Sensor.compare_channels" s_Sensor_compare_channels
  m_Sensor_latch_both : MetF K C.se "latch_both" "Sensor.latch_both" s_Sensor_latch_both
  m_Sensor_watch_limits : MetF K C.se "watch_limits" "Sensor.watch_limits" s_Sensor_watch_limits
  m_Sensor_judge_channels : MetF K C.se "judge_channels" "Sensor.judge_channels" s_Sensor_judge_channels
  m_Sensor_forget_counts : MetF K C.se "forget_counts" "Sensor.forget_counts" s_Sensor_forget_counts
  m_Settings_has_in_range : MetF K C.st "has_in_range" "Settings.has_in_range" s_Settings_has_in_range
  k_Channel : MakF K mg "Channel" C.ch "Channel.__init__" s_Channel_init
  k_Limits : MakF K mg "Limits" C.li "Limits.__init__" s_Limits_init
  k_Sensor : MakF K mg "Sensor" C.se "Sensor.__init__" s_Sensor_init
  k_Settings : MakF K mg "Settings" C.st "Settings.__init__" s_Settings_init
  f_answers : ∃ f, DefF K mg "answers" "answers" s_answers f
theorem bn_middle_one : Bnd "middle_one" "middle_one" s_middle_one ["numbers"] := fun _ _ _ _ _ _ us hl => match us, hl with | [_], _ => rfl
theorem bn_is_count : Bnd "is_count" "is_count" s_is_count ["number"] := fun _ _ _ _ _ _ us hl => match us, hl with | [_], _ => rfl
theorem bn_is_value : Bnd "is_value" "is_value" s_is_value ["number"] := fun _ _ _ _ _ _ us hl => match us, hl with | [_], _ => rfl
theorem bn_are_counts : Bnd "are_counts" "are_counts" s_are_counts ["pairs"] := fun _ _ _ _ _ _ us hl => match us, hl with | [_], _ => rfl
theorem bn_are_points : Bnd "are_points" "are_points" s_are_points ["pairs"] := fun _ _ _ _ _ _ us hl => match us, hl with | [_], _ => rfl
theorem bn_are_values : Bnd "are_values" "are_values" s_are_values ["numbers"] := fun _ _ _ _ _ _ us hl => match us, hl with | [_], _ => rfl
theorem bn_are_settings : Bnd "are_settings" "are_settings" s_are_settings ["given"] := fun _ _ _ _ _ _ us hl => match us, hl with | [_], _ => rfl
theorem bn_are_limits : Bnd "are_limits" "are_limits" s_are_limits ["low", "high", "back"] := fun _ _ _ _ _ _ us hl => match us, hl with | [_, _, _], _ => rfl
theorem bn_has_sensor : Bnd "has_sensor" "has_sensor" s_has_sensor ["sensors", "s"] := fun _ _ _ _ _ _ us hl => match us, hl with | [_, _], _ => rfl
theorem bn_has_channel : Bnd "has_channel" "has_channel" s_has_channel ["sensors", "s", "ch"] := fun _ _ _ _ _ _ us hl => match us, hl with | [_, _, _], _ => rfl
theorem bn_greatest_divisor : Bnd "greatest_divisor" "greatest_divisor" s_greatest_divisor ["a", "b"] := fun _ _ _ _ _ _ us hl => match us, hl with | [_, _], _ => rfl
theorem bn_ratio : Bnd "ratio" "ratio" s_ratio ["top", "bottom"] := fun _ _ _ _ _ _ us hl => match us, hl with | [_, _], _ => rfl
theorem bn_whole : Bnd "whole" "whole" s_whole ["number"] := fun _ _ _ _ _ _ us hl => match us, hl with | [_], _ => rfl
theorem bn_added : Bnd "added" "added" s_added ["a", "b"] := fun _ _ _ _ _ _ us hl => match us, hl with | [_, _], _ => rfl
theorem bn_subtracted : Bnd "subtracted" "subtracted" s_subtracted ["a", "b"] := fun _ _ _ _ _ _ us hl => match us, hl with | [_, _], _ => rfl
theorem bn_multiplied : Bnd "multiplied" "multiplied" s_multiplied ["a", "b"] := fun _ _ _ _ _ _ us hl => match us, hl with | [_, _], _ => rfl
theorem bn_divided : Bnd "divided" "divided" s_divided ["a", "b"] := fun _ _ _ _ _ _ us hl => match us, hl with | [_, _], _ => rfl
theorem bn_is_below : Bnd "is_below" "is_below" s_is_below ["a", "b"] := fun _ _ _ _ _ _ us hl => match us, hl with | [_, _], _ => rfl
theorem bn_rounded_down : Bnd "rounded_down" "rounded_down" s_rounded_down ["a"] := fun _ _ _ _ _ _ us hl => match us, hl with | [_], _ => rfl
theorem bn_ratio_text : Bnd "ratio_text" "ratio_text" s_ratio_text ["a"] := fun _ _ _ _ _ _ us hl => match us, hl with | [_], _ => rfl
theorem bn_points_rise : Bnd "points_rise" "points_rise" s_points_rise ["points"] := fun _ _ _ _ _ _ us hl => match us, hl with | [_], _ => rfl
theorem bn_value_between : Bnd "value_between" "value_between" s_value_between ["before", "behind", "count"] := fun _ _ _ _ _ _ us hl => match us, hl with | [_, _, _], _ => rfl
theorem bn_table_value : Bnd "table_value" "table_value" s_table_value ["points", "count"] := fun _ _ _ _ _ _ us hl => match us, hl with | [_, _], _ => rfl
theorem bn_is_too_large : Bnd "is_too_large" "is_too_large" s_is_too_large ["fraction"] := fun _ _ _ _ _ _ us hl => match us, hl with | [_], _ => rfl
theorem bn_Channel_init : Bnd "__init__" "Channel.__init__" s_Channel_init ["self", "settings"] := fun _ _ _ _ _ _ us hl => match us, hl with | [_, _], _ => rfl
theorem bn_Channel_value_by : Bnd "value_by" "Channel.value_by" s_Channel_value_by ["self", "gain", "offset", "count"] := fun _ _ _ _ _ _ us hl => match us, hl with | [_, _, _, _], _ => rfl
theorem bn_Channel_exact_value : Bnd "exact_value" "Channel.exact_value" s_Channel_exact_value ["self", "count"] := fun _ _ _ _ _ _ us hl => match us, hl with | [_, _], _ => rfl
theorem bn_Channel_whole_value : Bnd "whole_value" "Channel.whole_value" s_Channel_whole_value ["self", "count"] := fun _ _ _ _ _ _ us hl => match us, hl with | [_, _], _ => rfl
theorem bn_Channel_tells : Bnd "tells" "Channel.tells" s_Channel_tells ["self"] := fun _ _ _ _ _ _ us hl => match us, hl with | [_], _ => rfl
theorem bn_Channel_told_value : Bnd "told_value" "Channel.told_value" s_Channel_told_value ["self"] := fun _ _ _ _ _ _ us hl => match us, hl with | [_], _ => rfl
theorem bn_Channel_is_trusted : Bnd "is_trusted" "Channel.is_trusted" s_Channel_is_trusted ["self"] := fun _ _ _ _ _ _ us hl => match us, hl with | [_], _ => rfl
theorem bn_Channel_latch : Bnd "latch" "Channel.latch" s_Channel_latch ["self", "fault"] := fun _ _ _ _ _ _ us hl => match us, hl with | [_, _], _ => rfl
theorem bn_Channel_take : Bnd "take" "Channel.take" s_Channel_take ["self", "count"] := fun _ _ _ _ _ _ us hl => match us, hl with | [_, _], _ => rfl
theorem bn_Channel_take_out_of_range : Bnd "take_out_of_range" "Channel.take_out_of_range" s_Channel_take_out_of_range ["self"] := fun _ _ _ _ _ _ us hl => match us, hl with | [_], _ => rfl
theorem bn_Channel_take_in_range : Bnd "take_in_range" "Channel.take_in_range" s_Channel_take_in_range ["self", "count"] := fun _ _ _ _ _ _ us hl => match us, hl with | [_, _], _ => rfl
theorem bn_Channel_is_stuck : Bnd "is_stuck" "Channel.is_stuck" s_Channel_is_stuck ["self"] := fun _ _ _ _ _ _ us hl => match us, hl with | [_], _ => rfl
theorem bn_Channel_is_good : Bnd "is_good" "Channel.is_good" s_Channel_is_good ["self", "known"] := fun _ _ _ _ _ _ us hl => match us, hl with | [_, _], _ => rfl
theorem bn_Channel_judge : Bnd "judge" "Channel.judge" s_Channel_judge ["self", "known"] := fun _ _ _ _ _ _ us hl => match us, hl with | [_, _], _ => rfl
theorem bn_Channel_forget : Bnd "forget" "Channel.forget" s_Channel_forget ["self"] := fun _ _ _ _ _ _ us hl => match us, hl with | [_], _ => rfl
theorem bn_Channel_correct : Bnd "correct" "Channel.correct" s_Channel_correct ["self", "c1", "v1", "c2", "v2"] := fun _ _ _ _ _ _ us hl => match us, hl with | [_, _, _, _, _], _ => rfl
theorem bn_Channel_can_have : Bnd "can_have" "Channel.can_have" s_Channel_can_have ["self", "gain", "offset"] := fun _ _ _ _ _ _ us hl => match us, hl with | [_, _, _], _ => rfl
theorem bn_Channel_least_reaching : Bnd "least_reaching" "Channel.least_reaching" s_Channel_least_reaching ["self", "first", "beyond", "wanted"] := fun _ _ _ _ _ _ us hl => match us, hl with | [_, _, _, _], _ => rfl
theorem bn_has_form : Bnd "has_form" "has_form" s_has_form ["numbers"] := fun _ _ _ _ _ _ us hl => match us, hl with | [_], _ => rfl
theorem bn_plain_numbers : Bnd "plain_numbers" "plain_numbers" s_plain_numbers ["numbers"] := fun _ _ _ _ _ _ us hl => match us, hl with | [_], _ => rfl
theorem bn_listed_things : Bnd "listed_things" "listed_things" s_listed_things ["numbers"] := fun _ _ _ _ _ _ us hl => match us, hl with | [_], _ => rfl
theorem bn_fitted_line : Bnd "fitted_line" "fitted_line" s_fitted_line ["points"] := fun _ _ _ _ _ _ us hl => match us, hl with | [_], _ => rfl
theorem bn_Limits_init : Bnd "__init__" "Limits.__init__" s_Limits_init ["self", "low", "high", "back"] := fun _ _ _ _ _ _ us hl => match us, hl with | [_, _, _, _], _ => rfl
theorem bn_Limits_watch : Bnd "watch" "Limits.watch" s_Limits_watch ["self", "reading", "times"] := fun _ _ _ _ _ _ us hl => match us, hl with | [_, _, _], _ => rfl
theorem bn_Limits_alarm_by : Bnd "alarm_by" "Limits.alarm_by" s_Limits_alarm_by ["self", "reading", "times"] := fun _ _ _ _ _ _ us hl => match us, hl with | [_, _, _], _ => rfl
theorem bn_Sensor_init : Bnd "__init__" "Sensor.__init__" s_Sensor_init ["self", "settings"] := fun _ _ _ _ _ _ us hl => match us, hl with | [_, _], _ => rfl
theorem bn_Sensor_set_limits : Bnd "set_limits" "Sensor.set_limits" s_Sensor_set_limits ["self", "low", "high", "back"] := fun _ _ _ _ _ _ us hl => match us, hl with | [_, _, _, _], _ => rfl
theorem bn_Sensor_alarm_now : Bnd "alarm_now" "Sensor.alarm_now" s_Sensor_alarm_now ["self"] := fun _ _ _ _ _ _ us hl => match us, hl with | [_], _ => rfl
theorem bn_Sensor_trusted_values : Bnd "trusted_values" "Sensor.trusted_values" s_Sensor_trusted_values ["self"] := fun _ _ _ _ _ _ us hl => match us, hl with | [_], _ => rfl
theorem bn_Sensor_reading_now : Bnd "reading_now" "Sensor.reading_now" s_Sensor_reading_now ["self"] := fun _ _ _ _ _ _ us hl => match us, hl with | [_], _ => rfl
theorem bn_Sensor_gap_now : Bnd "gap_now" "Sensor.gap_now" s_Sensor_gap_now ["self"] := fun _ _ _ _ _ _ us hl => match us, hl with | [_], _ => rfl
theorem bn_Sensor_sample : Bnd "sample" "Sensor.sample" s_Sensor_sample ["self", "m", "n"] := fun _ _ _ _ _ _ us hl => match us, hl with | [_, _, _], _ => rfl
theorem bn_Sensor_compare_channels : Bnd "compare_channels" "Sensor.compare_channels" s_Sensor_compare_channels ["self"] := fun _ _ _ _ _ _ us hl => match us, hl with | [_], _ => rfl
theorem bn_Sensor_latch_both : Bnd "latch_both" "Sensor.latch_both" s_Sensor_latch_both ["self", "fault"] := fun _ _ _ _ _ _ us hl => match us, hl with | [_, _], _ => rfl
theorem bn_Sensor_watch_limits : Bnd "watch_limits" "Sensor.watch_limits" s_Sensor_watch_limits ["self"] := fun _ _ _ _ _ _ us hl => match us, hl with | [_], _ => rfl
theorem bn_Sensor_judge_channels : Bnd "judge_channels" "Sensor.judge_channels" s_Sensor_judge_channels ["self", "known"] := fun _ _ _ _ _ _ us hl => match us, hl with | [_, _], _ => rfl
theorem bn_Sensor_forget_counts : Bnd "forget_counts" "Sensor.forget_counts" s_Sensor_forget_counts ["self"] := fun _ _ _ _ _ _ us hl => match us, hl with | [_], _ => rfl
theorem bn_Settings_init : Bnd "__init__" "Settings.__init__" s_Settings_init ["self", "given", "points"] := fun _ _ _ _ _ _ us hl => match us, hl with | [_, _, _], _ => rfl
theorem bn_Settings_has_in_range : Bnd "has_in_range" "Settings.has_in_range" s_Settings_has_in_range ["self", "count"] := fun _ _ _ _ _ _ us hl => match us, hl with | [_, _], _ => rfl
theorem bn_text_numbers : Bnd "text_numbers" "text_numbers" s_text_numbers ["text"] := fun _ _ _ _ _ _ us hl => match us, hl with | [_], _ => rfl
theorem bn_number_if_any : Bnd "number_if_any" "number_if_any" s_number_if_any ["number"] := fun _ _ _ _ _ _ us hl => match us, hl with | [_], _ => rfl
theorem bn_sensor_answer : Bnd "sensor_answer" "sensor_answer" s_sensor_answer ["sensor"] := fun _ _ _ _ _ _ us hl => match us, hl with | [_], _ => rfl
theorem bn_call_sensor : Bnd "call_sensor" "call_sensor" s_call_sensor ["sensors", "given", "pairs"] := fun _ _ _ _ _ _ us hl => match us, hl with | [_, _, _], _ => rfl
theorem bn_call_limits : Bnd "call_limits" "call_limits" s_call_limits ["sensors", "given", "listed"] := fun _ _ _ _ _ _ us hl => match us, hl with | [_, _, _], _ => rfl
theorem bn_call_feed : Bnd "call_feed" "call_feed" s_call_feed ["sensors", "given", "listed"] := fun _ _ _ _ _ _ us hl => match us, hl with | [_, _, _], _ => rfl
theorem bn_call_feeds : Bnd "call_feeds" "call_feeds" s_call_feeds ["sensors", "given", "pairs"] := fun _ _ _ _ _ _ us hl => match us, hl with | [_, _, _], _ => rfl
theorem bn_call_reading : Bnd "call_reading" "call_reading" s_call_reading ["sensors", "given", "listed"] := fun _ _ _ _ _ _ us hl => match us, hl with | [_, _, _], _ => rfl
theorem bn_call_exact : Bnd "call_exact" "call_exact" s_call_exact ["sensors", "given", "listed"] := fun _ _ _ _ _ _ us hl => match us, hl with | [_, _, _], _ => rfl
theorem bn_call_value : Bnd "call_value" "call_value" s_call_value ["sensors", "given", "listed"] := fun _ _ _ _ _ _ us hl => match us, hl with | [_, _, _], _ => rfl
theorem bn_call_correct : Bnd "call_correct" "call_correct" s_call_correct ["sensors", "given", "listed"] := fun _ _ _ _ _ _ us hl => match us, hl with | [_, _, _], _ => rfl
theorem bn_call_drift : Bnd "call_drift" "call_drift" s_call_drift ["sensors", "given", "listed"] := fun _ _ _ _ _ _ us hl => match us, hl with | [_, _, _], _ => rfl
theorem bn_call_reference : Bnd "call_reference" "call_reference" s_call_reference ["sensors", "given", "listed"] := fun _ _ _ _ _ _ us hl => match us, hl with | [_, _, _], _ => rfl
theorem bn_can_search : Bnd "can_search" "can_search" s_can_search ["n", "k", "v"] := fun _ _ _ _ _ _ us hl => match us, hl with | [_, _, _], _ => rfl
theorem bn_call_least : Bnd "call_least" "call_least" s_call_least ["sensors", "given", "listed"] := fun _ _ _ _ _ _ us hl => match us, hl with | [_, _, _], _ => rfl
theorem bn_call_middle : Bnd "call_middle" "call_middle" s_call_middle ["sensors", "given", "numbers"] := fun _ _ _ _ _ _ us hl => match us, hl with | [_, _, _], _ => rfl
theorem bn_call_line : Bnd "call_line" "call_line" s_call_line ["sensors", "given", "pairs"] := fun _ _ _ _ _ _ us hl => match us, hl with | [_, _, _], _ => rfl
theorem bn_channel_state : Bnd "channel_state" "channel_state" s_channel_state ["channel"] := fun _ _ _ _ _ _ us hl => match us, hl with | [_], _ => rfl
theorem bn_limits_state : Bnd "limits_state" "limits_state" s_limits_state ["limits"] := fun _ _ _ _ _ _ us hl => match us, hl with | [_], _ => rfl
theorem bn_call_state : Bnd "call_state" "call_state" s_call_state ["sensors", "given", "listed"] := fun _ _ _ _ _ _ us hl => match us, hl with | [_, _, _], _ => rfl
theorem bn_call_clear : Bnd "call_clear" "call_clear" s_call_clear ["sensors", "given", "listed"] := fun _ _ _ _ _ _ us hl => match us, hl with | [_, _, _], _ => rfl
theorem bn_call_count : Bnd "call_count" "call_count" s_call_count ["sensors", "given", "listed"] := fun _ _ _ _ _ _ us hl => match us, hl with | [_, _, _], _ => rfl
theorem bn_call_gap : Bnd "call_gap" "call_gap" s_call_gap ["sensors", "given", "listed"] := fun _ _ _ _ _ _ us hl => match us, hl with | [_, _, _], _ => rfl
theorem bn_answer_call : Bnd "answer_call" "answer_call" s_answer_call ["sensors", "numbers"] := fun _ _ _ _ _ _ us hl => match us, hl with | [_, _], _ => rfl
theorem bn_answers : Bnd "answers" "answers" s_answers ["calls"] := fun _ _ _ _ _ _ us hl => match us, hl with | [_], _ => rfl
theorem all_mk0 {P : Program} {w : World} {K : PySem.W.Frag} {mg : Str → Option Value} {C : Cs} {fa : Addr} (hfa : mg "answers" = some (.ref fa)) (M : Mod K mg C) :
    ∃ fd : FuncData, (∀ (s : Shared) (us : List Value), us.length = (["calls"] : List Str).length → BindsTo s fd ⟨us, []⟩ ((["calls"] : List Str).zip us)) ∧ ∀ base : Heap, K.In base → base.Ns mainGlobals mg → FnOk P w K mg base CX0 16 fa fd ["calls"] (sp_answers K) := by
  have T := M.T
  obtain ⟨f, F⟩ := M.f_answers
  have e := F.mg.symm.trans hfa
  cases e
  obtain ⟨fd, F0⟩ := F.ex
  refine ⟨fd, ?_, fun base _ _ => ?_⟩
  · intro s us hu
    obtain ⟨oc, od, kV, doc, pm, an, cdv, ct, osl, rfl, lk, hcd⟩ := F0.ex
    exact .of_eq (bn_answers kV doc pm an cdv ct us hu)
  obtain ⟨a_middle_one, F_middle_one⟩ := M.f_middle_one
  have D_middle_one : Def P w K mg base "middle_one" 1 ["numbers"] (sp_middle_one C) := F_middle_one.d bn_middle_one (fun _ F => ok_middle_one F T  )
  obtain ⟨a_is_count, F_is_count⟩ := M.f_is_count
  have D_is_count : Def P w K mg base "is_count" 1 ["number"] (sp_is_count C) := F_is_count.d bn_is_count (fun _ F => ok_is_count F T  )
  obtain ⟨a_is_value, F_is_value⟩ := M.f_is_value
  have D_is_value : Def P w K mg base "is_value" 1 ["number"] (sp_is_value C) := F_is_value.d bn_is_value (fun _ F => ok_is_value F T  )
  obtain ⟨a_are_settings, F_are_settings⟩ := M.f_are_settings
  have D_are_settings : Def P w K mg base "are_settings" 1 ["given"] (sp_are_settings C) := F_are_settings.d bn_are_settings (fun _ F => ok_are_settings F T  )
  obtain ⟨a_are_limits, F_are_limits⟩ := M.f_are_limits
  have D_are_limits : Def P w K mg base "are_limits" 1 ["low", "high", "back"] (sp_are_limits C) := F_are_limits.d bn_are_limits (fun _ F => ok_are_limits F T  )
  obtain ⟨a_has_sensor, F_has_sensor⟩ := M.f_has_sensor
  have D_has_sensor : Def P w K mg base "has_sensor" 1 ["sensors", "s"] (sp_has_sensor C) := F_has_sensor.d bn_has_sensor (fun _ F => ok_has_sensor F T  )
  obtain ⟨a_greatest_divisor, F_greatest_divisor⟩ := M.f_greatest_divisor
  have D_greatest_divisor : Def P w K mg base "greatest_divisor" 1 ["a", "b"] (sp_greatest_divisor C) := F_greatest_divisor.d bn_greatest_divisor (fun _ F => ok_greatest_divisor F T  )
  obtain ⟨a_whole, F_whole⟩ := M.f_whole
  have D_whole : Def P w K mg base "whole" 1 ["number"] (sp_whole C) := F_whole.d bn_whole (fun _ F => ok_whole F T  )
  obtain ⟨a_is_below, F_is_below⟩ := M.f_is_below
  have D_is_below : Def P w K mg base "is_below" 1 ["a", "b"] (sp_is_below C) := F_is_below.d bn_is_below (fun _ F => ok_is_below F T  )
  obtain ⟨a_rounded_down, F_rounded_down⟩ := M.f_rounded_down
  have D_rounded_down : Def P w K mg base "rounded_down" 1 ["a"] (sp_rounded_down C) := F_rounded_down.d bn_rounded_down (fun _ F => ok_rounded_down F T  )
  obtain ⟨a_ratio_text, F_ratio_text⟩ := M.f_ratio_text
  have D_ratio_text : Def P w K mg base "ratio_text" 1 ["a"] (sp_ratio_text C) := F_ratio_text.d bn_ratio_text (fun _ F => ok_ratio_text F T  )
  obtain ⟨a_points_rise, F_points_rise⟩ := M.f_points_rise
  have D_points_rise : Def P w K mg base "points_rise" 1 ["points"] (sp_points_rise C) := F_points_rise.d bn_points_rise (fun _ F => ok_points_rise F T  )
  obtain ⟨a_is_too_large, F_is_too_large⟩ := M.f_is_too_large
  have D_is_too_large : Def P w K mg base "is_too_large" 1 ["fraction"] (sp_is_too_large C) := F_is_too_large.d bn_is_too_large (fun _ F => ok_is_too_large F T  )
  have D_Channel_tells : MethD P w K mg base C.ch "tells" 1 ["self"] (sp_Channel_tells C) := M.m_Channel_tells.d T.cl_ch bn_Channel_tells (fun _ _ F => ok_Channel_tells F T  )
  have D_Channel_latch : MethD P w K mg base C.ch "latch" 1 ["self", "fault"] (sp_Channel_latch C) := M.m_Channel_latch.d T.cl_ch bn_Channel_latch (fun _ _ F => ok_Channel_latch F T  )
  have D_Channel_is_stuck : MethD P w K mg base C.ch "is_stuck" 1 ["self"] (sp_Channel_is_stuck C) := M.m_Channel_is_stuck.d T.cl_ch bn_Channel_is_stuck (fun _ _ F => ok_Channel_is_stuck F T  )
  have D_Channel_forget : MethD P w K mg base C.ch "forget" 1 ["self"] (sp_Channel_forget C) := M.m_Channel_forget.d T.cl_ch bn_Channel_forget (fun _ _ F => ok_Channel_forget F T  )
  obtain ⟨a_has_form, F_has_form⟩ := M.f_has_form
  have D_has_form : Def P w K mg base "has_form" 1 ["numbers"] (sp_has_form C) := F_has_form.d bn_has_form (fun _ F => ok_has_form F T  )
  obtain ⟨a_plain_numbers, F_plain_numbers⟩ := M.f_plain_numbers
  have D_plain_numbers : Def P w K mg base "plain_numbers" 1 ["numbers"] (sp_plain_numbers C) := F_plain_numbers.d bn_plain_numbers (fun _ F => ok_plain_numbers F T  )
  obtain ⟨a_listed_things, F_listed_things⟩ := M.f_listed_things
  have D_listed_things : Def P w K mg base "listed_things" 1 ["numbers"] (sp_listed_things C) := F_listed_things.d bn_listed_things (fun _ F => ok_listed_things F T  )
  have M_Limits : MakeD P w K mg base "Limits" C.li 1 ["self", "low", "high", "back"] (sp_Limits_init C) := M.k_Limits.d bn_Limits_init (fun _ _ F => ok_Limits_init F T  )
  have D_Limits_alarm_by : MethD P w K mg base C.li "alarm_by" 1 ["self", "reading", "times"] (sp_Limits_alarm_by C) := M.m_Limits_alarm_by.d T.cl_li bn_Limits_alarm_by (fun _ _ F => ok_Limits_alarm_by F T  )
  have D_Sensor_alarm_now : MethD P w K mg base C.se "alarm_now" 1 ["self"] (sp_Sensor_alarm_now C) := M.m_Sensor_alarm_now.d T.cl_se bn_Sensor_alarm_now (fun _ _ F => ok_Sensor_alarm_now F T  )
  have M_Settings : MakeD P w K mg base "Settings" C.st 1 ["self", "given", "points"] (sp_Settings_init C) := M.k_Settings.d bn_Settings_init (fun _ _ F => ok_Settings_init F T  )
  have D_Settings_has_in_range : MethD P w K mg base C.st "has_in_range" 1 ["self", "count"] (sp_Settings_has_in_range C) := M.m_Settings_has_in_range.d T.cl_st bn_Settings_has_in_range (fun _ _ F => ok_Settings_has_in_range F T  )
  obtain ⟨a_text_numbers, F_text_numbers⟩ := M.f_text_numbers
  have D_text_numbers : Def P w K mg base "text_numbers" 1 ["text"] (sp_text_numbers C) := F_text_numbers.d bn_text_numbers (fun _ F => ok_text_numbers F T  )
  obtain ⟨a_number_if_any, F_number_if_any⟩ := M.f_number_if_any
  have D_number_if_any : Def P w K mg base "number_if_any" 1 ["number"] (sp_number_if_any C) := F_number_if_any.d bn_number_if_any (fun _ F => ok_number_if_any F T  )
  obtain ⟨a_channel_state, F_channel_state⟩ := M.f_channel_state
  have D_channel_state : Def P w K mg base "channel_state" 1 ["channel"] (sp_channel_state C) := F_channel_state.d bn_channel_state (fun _ F => ok_channel_state F T  )
  obtain ⟨a_limits_state, F_limits_state⟩ := M.f_limits_state
  have D_limits_state : Def P w K mg base "limits_state" 1 ["limits"] (sp_limits_state C) := F_limits_state.d bn_limits_state (fun _ F => ok_limits_state F T  )
  obtain ⟨a_call_count, e_call_count, F_call_count⟩ := M.f_call_count
  have V_call_count : FnV P w K mg base 14 (.ref a_call_count) (sp_call_count C) := F_call_count.v bn_call_count (fun _ F => ok_call_count F T  ) (by decide)
  have D_call_count : Def P w K mg base "call_count" 1 ["sensors", "given", "listed"] (sp_call_count C) := F_call_count.d bn_call_count (fun _ F => ok_call_count F T  )
  obtain ⟨a_are_counts, F_are_counts⟩ := M.f_are_counts
  have D_are_counts : Def P w K mg base "are_counts" 2 ["pairs"] (sp_are_counts C) := F_are_counts.d bn_are_counts (fun _ F => ok_are_counts F T D_is_count )
  obtain ⟨a_are_points, F_are_points⟩ := M.f_are_points
  have D_are_points : Def P w K mg base "are_points" 2 ["pairs"] (sp_are_points C) := F_are_points.d bn_are_points (fun _ F => ok_are_points F T D_is_value D_is_count )
  obtain ⟨a_are_values, F_are_values⟩ := M.f_are_values
  have D_are_values : Def P w K mg base "are_values" 2 ["numbers"] (sp_are_values C) := F_are_values.d bn_are_values (fun _ F => ok_are_values F T D_is_value )
  obtain ⟨a_has_channel, F_has_channel⟩ := M.f_has_channel
  have D_has_channel : Def P w K mg base "has_channel" 2 ["sensors", "s", "ch"] (sp_has_channel C) := F_has_channel.d bn_has_channel (fun _ F => ok_has_channel F T D_has_sensor )
  obtain ⟨a_ratio, F_ratio⟩ := M.f_ratio
  have D_ratio : Def P w K mg base "ratio" 2 ["top", "bottom"] (sp_ratio C) := F_ratio.d bn_ratio (fun _ F => ok_ratio F T D_greatest_divisor )
  have M_Channel : MakeD P w K mg base "Channel" C.ch 2 ["self", "settings"] (sp_Channel_init C) := M.k_Channel.d bn_Channel_init (fun _ _ F => ok_Channel_init F T D_whole )
  have D_Channel_is_trusted : MethD P w K mg base C.ch "is_trusted" 2 ["self"] (sp_Channel_is_trusted C) := M.m_Channel_is_trusted.d T.cl_ch bn_Channel_is_trusted (fun _ _ F => ok_Channel_is_trusted F T D_Channel_tells )
  have D_Channel_take_out_of_range : MethD P w K mg base C.ch "take_out_of_range" 2 ["self"] (sp_Channel_take_out_of_range C) := M.m_Channel_take_out_of_range.d T.cl_ch bn_Channel_take_out_of_range (fun _ _ F => ok_Channel_take_out_of_range F T D_Channel_latch )
  have D_Channel_take_in_range : MethD P w K mg base C.ch "take_in_range" 2 ["self", "count"] (sp_Channel_take_in_range C) := M.m_Channel_take_in_range.d T.cl_ch bn_Channel_take_in_range (fun _ _ F => ok_Channel_take_in_range F T D_Channel_tells D_Channel_is_stuck D_Channel_latch )
  have D_Limits_watch : MethD P w K mg base C.li "watch" 2 ["self", "reading", "times"] (sp_Limits_watch C) := M.m_Limits_watch.d T.cl_li bn_Limits_watch (fun _ _ F => ok_Limits_watch F T D_Limits_alarm_by )
  have D_Sensor_latch_both : MethD P w K mg base C.se "latch_both" 2 ["self", "fault"] (sp_Sensor_latch_both C) := M.m_Sensor_latch_both.d T.cl_se bn_Sensor_latch_both (fun _ _ F => ok_Sensor_latch_both F T D_Channel_latch )
  have D_Sensor_forget_counts : MethD P w K mg base C.se "forget_counts" 2 ["self"] (sp_Sensor_forget_counts C) := M.m_Sensor_forget_counts.d T.cl_se bn_Sensor_forget_counts (fun _ _ F => ok_Sensor_forget_counts F T D_Channel_forget )
  obtain ⟨a_can_search, F_can_search⟩ := M.f_can_search
  have D_can_search : Def P w K mg base "can_search" 2 ["n", "k", "v"] (sp_can_search C) := F_can_search.d bn_can_search (fun _ F => ok_can_search F T D_is_count )
  obtain ⟨a_call_state, e_call_state, F_call_state⟩ := M.f_call_state
  have V_call_state : FnV P w K mg base 14 (.ref a_call_state) (sp_call_state C) := F_call_state.v bn_call_state (fun _ F => ok_call_state F T D_has_sensor D_channel_state D_limits_state ) (by decide)
  have D_call_state : Def P w K mg base "call_state" 2 ["sensors", "given", "listed"] (sp_call_state C) := F_call_state.d bn_call_state (fun _ F => ok_call_state F T D_has_sensor D_channel_state D_limits_state )
  obtain ⟨a_added, F_added⟩ := M.f_added
  have D_added : Def P w K mg base "added" 3 ["a", "b"] (sp_added C) := F_added.d bn_added (fun _ F => ok_added F T D_ratio )
  obtain ⟨a_subtracted, F_subtracted⟩ := M.f_subtracted
  have D_subtracted : Def P w K mg base "subtracted" 3 ["a", "b"] (sp_subtracted C) := F_subtracted.d bn_subtracted (fun _ F => ok_subtracted F T D_ratio )
  obtain ⟨a_multiplied, F_multiplied⟩ := M.f_multiplied
  have D_multiplied : Def P w K mg base "multiplied" 3 ["a", "b"] (sp_multiplied C) := F_multiplied.d bn_multiplied (fun _ F => ok_multiplied F T D_ratio )
  obtain ⟨a_divided, F_divided⟩ := M.f_divided
  have D_divided : Def P w K mg base "divided" 3 ["a", "b"] (sp_divided C) := F_divided.d bn_divided (fun _ F => ok_divided F T D_ratio )
  obtain ⟨a_value_between, F_value_between⟩ := M.f_value_between
  have D_value_between : Def P w K mg base "value_between" 3 ["before", "behind", "count"] (sp_value_between C) := F_value_between.d bn_value_between (fun _ F => ok_value_between F T D_ratio )
  have D_Channel_take : MethD P w K mg base C.ch "take" 3 ["self", "count"] (sp_Channel_take C) := M.m_Channel_take.d T.cl_ch bn_Channel_take (fun _ _ F => ok_Channel_take F T D_Settings_has_in_range D_Channel_take_in_range D_Channel_take_out_of_range )
  have D_Sensor_set_limits : MethD P w K mg base C.se "set_limits" 3 ["self", "low", "high", "back"] (sp_Sensor_set_limits C) := M.m_Sensor_set_limits.d T.cl_se bn_Sensor_set_limits (fun _ _ F => ok_Sensor_set_limits F T  M_Limits)
  obtain ⟨a_call_drift, e_call_drift, F_call_drift⟩ := M.f_call_drift
  have V_call_drift : FnV P w K mg base 14 (.ref a_call_drift) (sp_call_drift C) := F_call_drift.v bn_call_drift (fun _ F => ok_call_drift F T D_has_channel D_text_numbers D_ratio_text ) (by decide)
  have D_call_drift : Def P w K mg base "call_drift" 3 ["sensors", "given", "listed"] (sp_call_drift C) := F_call_drift.d bn_call_drift (fun _ F => ok_call_drift F T D_has_channel D_text_numbers D_ratio_text )
  obtain ⟨a_call_middle, e_call_middle, F_call_middle⟩ := M.f_call_middle
  have V_call_middle : FnV P w K mg base 14 (.ref a_call_middle) (sp_call_middle C) := F_call_middle.v bn_call_middle (fun _ F => ok_call_middle F T D_are_values D_middle_one ) (by decide)
  have D_call_middle : Def P w K mg base "call_middle" 3 ["sensors", "given", "numbers"] (sp_call_middle C) := F_call_middle.d bn_call_middle (fun _ F => ok_call_middle F T D_are_values D_middle_one )
  obtain ⟨a_call_clear, e_call_clear, F_call_clear⟩ := M.f_call_clear
  have V_call_clear : FnV P w K mg base 14 (.ref a_call_clear) (sp_call_clear C) := F_call_clear.v bn_call_clear (fun _ F => ok_call_clear F T D_has_sensor D_Sensor_forget_counts ) (by decide)
  have D_call_clear : Def P w K mg base "call_clear" 3 ["sensors", "given", "listed"] (sp_call_clear C) := F_call_clear.d bn_call_clear (fun _ F => ok_call_clear F T D_has_sensor D_Sensor_forget_counts )
  obtain ⟨a_table_value, F_table_value⟩ := M.f_table_value
  have D_table_value : Def P w K mg base "table_value" 4 ["points", "count"] (sp_table_value C) := F_table_value.d bn_table_value (fun _ F => ok_table_value F T D_whole D_value_between )
  obtain ⟨a_fitted_line, F_fitted_line⟩ := M.f_fitted_line
  have D_fitted_line : Def P w K mg base "fitted_line" 4 ["points"] (sp_fitted_line C) := F_fitted_line.d bn_fitted_line (fun _ F => ok_fitted_line F T D_ratio D_subtracted D_multiplied D_whole D_divided )
  have M_Sensor : MakeD P w K mg base "Sensor" C.se 4 ["self", "settings"] (sp_Sensor_init C) := M.k_Sensor.d bn_Sensor_init (fun _ _ F => ok_Sensor_init F T  M_Channel)
  obtain ⟨a_call_limits, e_call_limits, F_call_limits⟩ := M.f_call_limits
  have V_call_limits : FnV P w K mg base 14 (.ref a_call_limits) (sp_call_limits C) := F_call_limits.v bn_call_limits (fun _ F => ok_call_limits F T D_are_limits D_has_sensor D_Sensor_set_limits ) (by decide)
  have D_call_limits : Def P w K mg base "call_limits" 4 ["sensors", "given", "listed"] (sp_call_limits C) := F_call_limits.d bn_call_limits (fun _ F => ok_call_limits F T D_are_limits D_has_sensor D_Sensor_set_limits )
  have D_Channel_value_by : MethD P w K mg base C.ch "value_by" 5 ["self", "gain", "offset", "count"] (sp_Channel_value_by C) := M.m_Channel_value_by.d T.cl_ch bn_Channel_value_by (fun _ _ F => ok_Channel_value_by F T D_added D_multiplied D_table_value )
  obtain ⟨a_call_line, e_call_line, F_call_line⟩ := M.f_call_line
  have V_call_line : FnV P w K mg base 14 (.ref a_call_line) (sp_call_line C) := F_call_line.v bn_call_line (fun _ F => ok_call_line F T D_are_points D_fitted_line D_text_numbers D_ratio_text ) (by decide)
  have D_call_line : Def P w K mg base "call_line" 5 ["sensors", "given", "pairs"] (sp_call_line C) := F_call_line.d bn_call_line (fun _ F => ok_call_line F T D_are_points D_fitted_line D_text_numbers D_ratio_text )
  have D_Channel_exact_value : MethD P w K mg base C.ch "exact_value" 6 ["self", "count"] (sp_Channel_exact_value C) := M.m_Channel_exact_value.d T.cl_ch bn_Channel_exact_value (fun _ _ F => ok_Channel_exact_value F T D_Channel_value_by )
  have D_Channel_can_have : MethD P w K mg base C.ch "can_have" 6 ["self", "gain", "offset"] (sp_Channel_can_have C) := M.m_Channel_can_have.d T.cl_ch bn_Channel_can_have (fun _ _ F => ok_Channel_can_have F T D_is_too_large D_rounded_down D_Channel_value_by )
  obtain ⟨a_call_sensor, e_call_sensor, F_call_sensor⟩ := M.f_call_sensor
  have V_call_sensor : FnV P w K mg base 14 (.ref a_call_sensor) (sp_call_sensor C) := F_call_sensor.v bn_call_sensor (fun _ F => ok_call_sensor F T D_are_points D_are_settings D_points_rise M_Sensor M_Settings) (by decide)
  have D_call_sensor : Def P w K mg base "call_sensor" 6 ["sensors", "given", "pairs"] (sp_call_sensor C) := F_call_sensor.d bn_call_sensor (fun _ F => ok_call_sensor F T D_are_points D_are_settings D_points_rise M_Sensor M_Settings)
  have D_Channel_whole_value : MethD P w K mg base C.ch "whole_value" 7 ["self", "count"] (sp_Channel_whole_value C) := M.m_Channel_whole_value.d T.cl_ch bn_Channel_whole_value (fun _ _ F => ok_Channel_whole_value F T D_rounded_down D_Channel_exact_value )
  have D_Channel_correct : MethD P w K mg base C.ch "correct" 7 ["self", "c1", "v1", "c2", "v2"] (sp_Channel_correct C) := M.m_Channel_correct.d T.cl_ch bn_Channel_correct (fun _ _ F => ok_Channel_correct F T D_Channel_exact_value D_is_below D_divided D_subtracted D_whole D_multiplied D_added D_Channel_can_have )
  obtain ⟨a_call_exact, e_call_exact, F_call_exact⟩ := M.f_call_exact
  have V_call_exact : FnV P w K mg base 14 (.ref a_call_exact) (sp_call_exact C) := F_call_exact.v bn_call_exact (fun _ F => ok_call_exact F T D_is_count D_has_channel D_text_numbers D_ratio_text D_Channel_exact_value ) (by decide)
  have D_call_exact : Def P w K mg base "call_exact" 7 ["sensors", "given", "listed"] (sp_call_exact C) := F_call_exact.d bn_call_exact (fun _ F => ok_call_exact F T D_is_count D_has_channel D_text_numbers D_ratio_text D_Channel_exact_value )
  have D_Channel_told_value : MethD P w K mg base C.ch "told_value" 8 ["self"] (sp_Channel_told_value C) := M.m_Channel_told_value.d T.cl_ch bn_Channel_told_value (fun _ _ F => ok_Channel_told_value F T D_Channel_whole_value D_middle_one )
  have D_Channel_least_reaching : MethD P w K mg base C.ch "least_reaching" 8 ["self", "first", "beyond", "wanted"] (sp_Channel_least_reaching C) := M.m_Channel_least_reaching.d T.cl_ch bn_Channel_least_reaching (fun _ _ F => ok_Channel_least_reaching F T D_Channel_whole_value )
  obtain ⟨a_call_value, e_call_value, F_call_value⟩ := M.f_call_value
  have V_call_value : FnV P w K mg base 14 (.ref a_call_value) (sp_call_value C) := F_call_value.v bn_call_value (fun _ F => ok_call_value F T D_is_count D_has_channel D_Channel_whole_value ) (by decide)
  have D_call_value : Def P w K mg base "call_value" 8 ["sensors", "given", "listed"] (sp_call_value C) := F_call_value.d bn_call_value (fun _ F => ok_call_value F T D_is_count D_has_channel D_Channel_whole_value )
  obtain ⟨a_call_correct, e_call_correct, F_call_correct⟩ := M.f_call_correct
  have V_call_correct : FnV P w K mg base 14 (.ref a_call_correct) (sp_call_correct C) := F_call_correct.v bn_call_correct (fun _ F => ok_call_correct F T D_are_points D_has_channel D_Channel_correct ) (by decide)
  have D_call_correct : Def P w K mg base "call_correct" 8 ["sensors", "given", "listed"] (sp_call_correct C) := F_call_correct.d bn_call_correct (fun _ F => ok_call_correct F T D_are_points D_has_channel D_Channel_correct )
  have D_Channel_is_good : MethD P w K mg base C.ch "is_good" 9 ["self", "known"] (sp_Channel_is_good C) := M.m_Channel_is_good.d T.cl_ch bn_Channel_is_good (fun _ _ F => ok_Channel_is_good F T D_Channel_is_stuck D_Channel_tells D_Channel_told_value )
  have D_Sensor_trusted_values : MethD P w K mg base C.se "trusted_values" 9 ["self"] (sp_Sensor_trusted_values C) := M.m_Sensor_trusted_values.d T.cl_se bn_Sensor_trusted_values (fun _ _ F => ok_Sensor_trusted_values F T D_Channel_is_trusted D_Channel_told_value )
  obtain ⟨a_call_least, e_call_least, F_call_least⟩ := M.f_call_least
  have V_call_least : FnV P w K mg base 14 (.ref a_call_least) (sp_call_least C) := F_call_least.v bn_call_least (fun _ F => ok_call_least F T D_can_search D_has_channel D_Channel_least_reaching ) (by decide)
  have D_call_least : Def P w K mg base "call_least" 9 ["sensors", "given", "listed"] (sp_call_least C) := F_call_least.d bn_call_least (fun _ F => ok_call_least F T D_can_search D_has_channel D_Channel_least_reaching )
  have D_Channel_judge : MethD P w K mg base C.ch "judge" 10 ["self", "known"] (sp_Channel_judge C) := M.m_Channel_judge.d T.cl_ch bn_Channel_judge (fun _ _ F => ok_Channel_judge F T D_Channel_is_good D_Channel_latch )
  have D_Sensor_reading_now : MethD P w K mg base C.se "reading_now" 10 ["self"] (sp_Sensor_reading_now C) := M.m_Sensor_reading_now.d T.cl_se bn_Sensor_reading_now (fun _ _ F => ok_Sensor_reading_now F T D_Sensor_trusted_values )
  have D_Sensor_gap_now : MethD P w K mg base C.se "gap_now" 10 ["self"] (sp_Sensor_gap_now C) := M.m_Sensor_gap_now.d T.cl_se bn_Sensor_gap_now (fun _ _ F => ok_Sensor_gap_now F T D_Sensor_trusted_values )
  have D_Sensor_compare_channels : MethD P w K mg base C.se "compare_channels" 11 ["self"] (sp_Sensor_compare_channels C) := M.m_Sensor_compare_channels.d T.cl_se bn_Sensor_compare_channels (fun _ _ F => ok_Sensor_compare_channels F T D_Sensor_gap_now D_Sensor_latch_both )
  have D_Sensor_watch_limits : MethD P w K mg base C.se "watch_limits" 11 ["self"] (sp_Sensor_watch_limits C) := M.m_Sensor_watch_limits.d T.cl_se bn_Sensor_watch_limits (fun _ _ F => ok_Sensor_watch_limits F T D_Sensor_reading_now D_Limits_watch )
  have D_Sensor_judge_channels : MethD P w K mg base C.se "judge_channels" 11 ["self", "known"] (sp_Sensor_judge_channels C) := M.m_Sensor_judge_channels.d T.cl_se bn_Sensor_judge_channels (fun _ _ F => ok_Sensor_judge_channels F T D_Channel_judge )
  obtain ⟨a_sensor_answer, F_sensor_answer⟩ := M.f_sensor_answer
  have D_sensor_answer : Def P w K mg base "sensor_answer" 11 ["sensor"] (sp_sensor_answer C) := F_sensor_answer.d bn_sensor_answer (fun _ F => ok_sensor_answer F T D_Sensor_alarm_now D_number_if_any D_Sensor_reading_now )
  obtain ⟨a_call_gap, e_call_gap, F_call_gap⟩ := M.f_call_gap
  have V_call_gap : FnV P w K mg base 14 (.ref a_call_gap) (sp_call_gap C) := F_call_gap.v bn_call_gap (fun _ F => ok_call_gap F T D_has_sensor D_number_if_any D_Sensor_gap_now ) (by decide)
  have D_call_gap : Def P w K mg base "call_gap" 11 ["sensors", "given", "listed"] (sp_call_gap C) := F_call_gap.d bn_call_gap (fun _ F => ok_call_gap F T D_has_sensor D_number_if_any D_Sensor_gap_now )
  have D_Sensor_sample : MethD P w K mg base C.se "sample" 12 ["self", "m", "n"] (sp_Sensor_sample C) := M.m_Sensor_sample.d T.cl_se bn_Sensor_sample (fun _ _ F => ok_Sensor_sample F T D_Channel_take D_Settings_has_in_range D_Sensor_compare_channels D_Sensor_watch_limits )
  obtain ⟨a_call_reading, e_call_reading, F_call_reading⟩ := M.f_call_reading
  have V_call_reading : FnV P w K mg base 14 (.ref a_call_reading) (sp_call_reading C) := F_call_reading.v bn_call_reading (fun _ F => ok_call_reading F T D_has_sensor D_sensor_answer ) (by decide)
  have D_call_reading : Def P w K mg base "call_reading" 12 ["sensors", "given", "listed"] (sp_call_reading C) := F_call_reading.d bn_call_reading (fun _ F => ok_call_reading F T D_has_sensor D_sensor_answer )
  obtain ⟨a_call_reference, e_call_reference, F_call_reference⟩ := M.f_call_reference
  have V_call_reference : FnV P w K mg base 14 (.ref a_call_reference) (sp_call_reference C) := F_call_reference.v bn_call_reference (fun _ F => ok_call_reference F T D_is_value D_has_sensor D_Sensor_judge_channels ) (by decide)
  have D_call_reference : Def P w K mg base "call_reference" 12 ["sensors", "given", "listed"] (sp_call_reference C) := F_call_reference.d bn_call_reference (fun _ F => ok_call_reference F T D_is_value D_has_sensor D_Sensor_judge_channels )
  obtain ⟨a_call_feeds, e_call_feeds, F_call_feeds⟩ := M.f_call_feeds
  have V_call_feeds : FnV P w K mg base 14 (.ref a_call_feeds) (sp_call_feeds C) := F_call_feeds.v bn_call_feeds (fun _ F => ok_call_feeds F T D_are_counts D_has_sensor D_Sensor_sample D_sensor_answer ) (by decide)
  have D_call_feeds : Def P w K mg base "call_feeds" 13 ["sensors", "given", "pairs"] (sp_call_feeds C) := F_call_feeds.d bn_call_feeds (fun _ F => ok_call_feeds F T D_are_counts D_has_sensor D_Sensor_sample D_sensor_answer )
  obtain ⟨a_call_feed, e_call_feed, F_call_feed⟩ := M.f_call_feed
  have V_call_feed : FnV P w K mg base 14 (.ref a_call_feed) (sp_call_feed C) := F_call_feed.v bn_call_feed (fun _ F => ok_call_feed F T D_call_feeds ) (by decide)
  have D_call_feed : Def P w K mg base "call_feed" 14 ["sensors", "given", "listed"] (sp_call_feed C) := F_call_feed.d bn_call_feed (fun _ F => ok_call_feed F T D_call_feeds )
  have CT : CallTab P w K mg base C := by
    intro i p hp
    match i, hp with
    | 0, hp =>
      rw [e_call_sensor] at hp
      cases hp
      exact V_call_sensor
    | 1, hp =>
      rw [e_call_limits] at hp
      cases hp
      exact V_call_limits
    | 2, hp =>
      rw [e_call_feed] at hp
      cases hp
      exact V_call_feed
    | 3, hp =>
      rw [e_call_feeds] at hp
      cases hp
      exact V_call_feeds
    | 4, hp =>
      rw [e_call_reading] at hp
      cases hp
      exact V_call_reading
    | 5, hp =>
      rw [e_call_exact] at hp
      cases hp
      exact V_call_exact
    | 6, hp =>
      rw [e_call_value] at hp
      cases hp
      exact V_call_value
    | 7, hp =>
      rw [e_call_correct] at hp
      cases hp
      exact V_call_correct
    | 8, hp =>
      rw [e_call_drift] at hp
      cases hp
      exact V_call_drift
    | 9, hp =>
      rw [e_call_reference] at hp
      cases hp
      exact V_call_reference
    | 10, hp =>
      rw [e_call_least] at hp
      cases hp
      exact V_call_least
    | 11, hp =>
      rw [e_call_middle] at hp
      cases hp
      exact V_call_middle
    | 12, hp =>
      rw [e_call_line] at hp
      cases hp
      exact V_call_line
    | 13, hp =>
      rw [e_call_state] at hp
      cases hp
      exact V_call_state
    | 14, hp =>
      rw [e_call_clear] at hp
      cases hp
      exact V_call_clear
    | 15, hp =>
      rw [e_call_count] at hp
      cases hp
      exact V_call_count
    | 16, hp =>
      rw [e_call_gap] at hp
      cases hp
      exact V_call_gap
    | i + 17, hp =>
      have := (List.getElem?_eq_some_iff.mp hp).1
      rw [T.callsLen] at this
      omega
  obtain ⟨a_answer_call, F_answer_call⟩ := M.f_answer_call
  have D_answer_call : Def P w K mg base "answer_call" 15 ["sensors", "numbers"] (sp_answer_call C) := F_answer_call.d bn_answer_call (fun _ F => ok_answer_call F T D_has_form D_listed_things D_plain_numbers CT )
  exact ok_answers F0 T D_answer_call
theorem all_mk {P : Program} {w : World} {K : PySem.W.Frag} {h : Heap} {mg : Str → Option Value} {fa ch li se st fo ca p0 p1 p2 p3 p4 p5 p6 p7 p8 p9 p10 p11 p12 p13 p14 p15 p16 c0 c1 c2 c3 c4 c5 c6 c7 c8 c9 c10 c11 c12 c13 c14 c15 c16 : Addr} (X : K.In h) (G : h.Ns mainGlobals mg) (hfa : mg "answers" = some (.ref fa)) (M : Mod K mg ⟨ch, li, se, st, fo, ca, [p0, p1, p2, p3, p4, p5, p6, p7, p8, p9, p10, p11, p12, p13, p14, p15, p16], [c0, c1, c2, c3, c4, c5, c6, c7, c8, c9, c10, c11, c12, c13, c14, c15, c16]⟩) :
    ∃ fd : FuncData, (∀ (s : Shared) (us : List Value), us.length = (["calls"] : List Str).length → BindsTo s fd ⟨us, []⟩ ((["calls"] : List Str).zip us)) ∧ ∀ base : Heap, K.In base → base.Ns mainGlobals mg → FnOk P w K mg base CX0 16 fa fd ["calls"] (sp_answers K) := all_mk0 hfa M
end Tw
namespace PySem.W.Fast
theorem tw7389674979364931435 : True := trivial
theorem tw10617336119096123293 : True := trivial
theorem tw7300344786202434396 : True := trivial
theorem tw14438828809540445104 : True := trivial
theorem tw1769452922098471280 : True := trivial
theorem tw8407749003461335839 : True := trivial
theorem tw492486380776930646 : True := trivial
theorem tw13600496426127594467 : True := trivial
theorem tw8798097495963496858 : True := trivial
theorem tw12954708446267441919 : True := trivial
theorem tw13831266189908231957 : True := trivial
theorem tw17432214254147659237 : True := trivial
theorem tw135109624678457229 : True := trivial
theorem tw3027083747218168682 : True := trivial
theorem tw12282367629598989938 : True := trivial
theorem tw4440407362683336352 : True := trivial
theorem tw576393478780399754 : True := trivial
theorem tw615373365344693876 : True := trivial
theorem tw3143631071652115737 : True := trivial
theorem tw4609812607792703393 : True := trivial
theorem tw960156893124459072 : True := trivial
theorem tw16107387329227697697 : True := trivial
theorem tw6142248979883420271 : True := trivial
theorem tw11508273353841307782 : True := trivial
theorem tw3327596329329271193 : True := trivial
theorem tw12083424562139960091 : True := trivial
theorem tw1476327419420320137 : True := trivial
theorem tw2331965683674744080 : True := trivial
theorem tw11432856275511941499 : True := trivial
theorem tw4070509207769803802 : True := trivial
theorem tw16129346736918761521 : True := trivial
theorem tw10499042772236838735 : True := trivial
theorem tw8636308433074317275 : True := trivial
theorem tw10502690653055697257 : True := trivial
theorem tw3716558792097356276 : True := trivial
theorem tw3556036873415238003 : True := trivial
theorem tw7255475261265496353 : True := trivial
theorem tw7720999377955982136 : True := trivial
theorem tw14428200962767536818 : True := trivial
theorem tw7400486231790507804 : True := trivial
theorem tw12545800403832042207 : True := trivial
theorem tw10108618350608002286 : True := trivial
theorem tw14100864244018426161 : True := trivial
theorem tw5614840610040582478 : True := trivial
theorem tw4517534519480512305 : True := trivial
theorem tw8010656022196344061 : True := trivial
theorem tw3250690129635813243 : True := trivial
theorem tw17425049156370799235 : True := trivial
theorem tw12516778824358859712 : True := trivial
theorem tw13190938758661693401 : True := trivial
theorem tw9357315570799915252 : True := trivial
theorem tw18334808009192926450 : True := trivial
theorem tw12160909526435233003 : True := trivial
theorem tw14775574876376557404 : True := trivial
theorem tw5782698674341641658 : True := trivial
theorem tw13094412679329907581 : True := trivial
theorem tw4350907209675148462 : True := trivial
theorem tw5522599362318449686 : True := trivial
theorem tw14583647376699114304 : True := trivial
theorem tw14597737027047717152 : True := trivial
theorem tw5097962639682391573 : True := trivial
theorem tw15127980434551684199 : True := trivial
theorem tw13331244484921387947 : True := trivial
theorem tw5922712556093542017 : True := trivial
theorem tw18281623061001586321 : True := trivial
theorem tw1401075221820374035 : True := trivial
theorem tw15595648368713224758 : True := trivial
theorem tw16183916582403169373 : True := trivial
theorem tw601580260223684806 : True := trivial
theorem tw12789378564729091525 : True := trivial
theorem tw8274272085622563562 : True := trivial
theorem tw7527330613750235456 : True := trivial
theorem tw15482222669468479341 : True := trivial
theorem tw4231916327875000453 : True := trivial
theorem tw15952375467626978686 : True := trivial
theorem tw16611763908301559447 : True := trivial
theorem tw16752541561675024454 : True := trivial
theorem tw16953757858422972211 : True := trivial
theorem tw12689782287499684346 : True := trivial
theorem tw17901821753910463241 : True := trivial
theorem tw2086775005012747592 : True := trivial
theorem tw18174477632926365858 : True := trivial
theorem tw9416929493482995523 : True := trivial
theorem tw8499952682043703440 : True := trivial
theorem tw4009581947923452950 : True := trivial
theorem tw6115532233533551207 : True := trivial
theorem tw16188977113921342234 : True := trivial
theorem tw10396765315888880715 : True := trivial
theorem tw2930805791257891579 : True := trivial
theorem tw13147875003953348981 : True := trivial
theorem tw13790758255972848544 : True := trivial
theorem tw4722347907175090187 : True := trivial
theorem tw9062748453795259452 : True := trivial
theorem tw5884421635004766918 : True := trivial
theorem tw7213447375143274575 : True := trivial
theorem tw16531005279748182172 : True := trivial
theorem tw2447469247632749738 : True := trivial
theorem tw6013411965472738640 : True := trivial
theorem tw2816925938049287192 : True := trivial
theorem tw3157675909441973795 : True := trivial
theorem tw15105874421395218344 : True := trivial
theorem tw14117376197349925718 : True := trivial
theorem tw15392859017986995856 : True := trivial
theorem tw13255110042702370957 : True := trivial
theorem tw11993500965710730561 : True := trivial
theorem tw11655619963759855605 : True := trivial
theorem tw3026051393397007565 : True := trivial
theorem tw3146963927006939383 : True := trivial
theorem tw16457968137002192876 : True := trivial
theorem tw3763176348711025118 : True := trivial
theorem tw958059826672341310 : True := trivial
theorem tw5039626025122589028 : True := trivial
theorem tw5071905860137639368 : True := trivial
theorem tw9915027215091151494 : True := trivial
theorem tw13361011582763879863 : True := trivial
theorem tw15623359915683477966 : True := trivial
theorem tw3908616041365363528 : True := trivial
theorem tw13208394549321905535 : True := trivial
theorem tw16643575712239713137 : True := trivial
theorem tw1432042786703316847 : True := trivial
theorem tw13761869680469987683 : True := trivial
theorem tw15994750764598406964 : True := trivial
theorem tw15885421769781166494 : True := trivial
theorem tw7238352728489511633 : True := trivial
theorem tw3405083084073459787 : True := trivial
theorem tw16800464526976594431 : True := trivial
theorem tw6927051276902032614 : True := trivial
theorem tw3146777352436807236 : True := trivial
theorem tw2956332442904180310 : True := trivial
theorem tw3614584525088814826 : True := trivial
theorem tw7368480719223732770 : True := trivial
theorem tw13214344762314714356 : True := trivial
theorem tw4674660577101171907 : True := trivial
theorem tw7222317522521292864 : True := trivial
theorem tw5860779649868947358 : True := trivial
theorem tw17018980487316285559 : True := trivial
theorem tw6404625345456031831 : True := trivial
theorem tw14349979195507257170 : True := trivial
theorem tw13150337867297810385 : True := trivial
theorem tw3245784422760624768 : True := trivial
theorem tw15887440468028694972 : True := trivial
theorem tw11899812572234004701 : True := trivial
theorem tw12196541206529976832 : True := trivial
theorem tw9430669959043450301 : True := trivial
theorem tw17384323613505166854 : True := trivial
theorem tw18386915275793864916 : True := trivial
theorem tw6393014935460077274 : True := trivial
theorem tw15550360091971113586 : True := trivial
theorem tw13300604792895311504 : True := trivial
theorem tw7909017362656881828 : True := trivial
theorem tw895961969269376745 : True := trivial
theorem tw14195063792877867976 : True := trivial
theorem tw7243219600847780185 : True := trivial
theorem tw4971483422712384932 : True := trivial
theorem tw10959127694626364134 : True := trivial
theorem tw8179157306682810988 : True := trivial
theorem tw13646925089522653451 : True := trivial
theorem tw17965014515327986002 : True := trivial
theorem tw13805311203900948654 : True := trivial
theorem tw15177827726611716383 : True := trivial
theorem tw6835675130651303838 : True := trivial
theorem tw3720776008121236978 : True := trivial
theorem tw6818081340466002372 : True := trivial
theorem tw17610868409041588244 : True := trivial
theorem tw7986415434452476632 : True := trivial
theorem tw5020797422958904314 : True := trivial
theorem tw14230080504586318229 : True := trivial
theorem tw5941846026191143610 : True := trivial
theorem tw3488631354003164996 : True := trivial
theorem tw13148686486776478940 : True := trivial
theorem tw5370890826952012611 : True := trivial
theorem tw16011433981755608044 : True := trivial
theorem tw11145220395819830529 : True := trivial
theorem tw17060008324069784766 : True := trivial
theorem tw3341294287185020730 : True := trivial
theorem tw8694421482896161522 : True := trivial
theorem tw5840304977382187719 : True := trivial
theorem tw11425863148899258628 : True := trivial
theorem tw8677436624375871180 : True := trivial
theorem tw10277018026617672015 : True := trivial
theorem tw17193949806669939026 : True := trivial
theorem tw17906194092391802640 : True := trivial
theorem tw9344065834262684551 : True := trivial
theorem tw4859364154710240843 : True := trivial
theorem tw17996582382903527994 : True := trivial
theorem tw17943913659180674670 : True := trivial
theorem tw17218389844566241398 : True := trivial
theorem tw5185430971170967658 : True := trivial
theorem tw922697551592894741 : True := trivial
theorem tw3024213016370034378 : True := trivial
theorem tw11889607061424297232 : True := trivial
theorem tw4162500143301863002 : True := trivial
theorem tw8213667134077422664 : True := trivial
theorem tw8630882135026063339 : True := trivial
theorem tw49400020831243375 : True := trivial
theorem tw10004197584961557719 : True := trivial
theorem tw17543989714576492996 : True := trivial
theorem tw10586906062039727491 : True := trivial
theorem tw6261639314959615126 : True := trivial
theorem tw6870246743215747402 : True := trivial
theorem tw4730090806802673384 : True := trivial
theorem tw30116515120644976 : True := trivial
theorem tw15700331223492750981 : True := trivial
theorem tw5803876642440993140 : True := trivial
theorem tw15072650037942999073 : True := trivial
theorem tw5132971008504964578 : True := trivial
theorem tw18331684223866491686 : True := trivial
theorem tw5703209756696247507 : True := trivial
theorem tw17697908816041266519 : True := trivial
theorem tw8263499206145725824 : True := trivial
theorem tw6937749242780303576 : True := trivial
theorem tw5511717435724850870 : True := trivial
theorem tw8722890211770059229 : True := trivial
theorem tw4331233412472886726 : True := trivial
theorem tw4597040243835222751 : True := trivial
theorem tw6945788300240833833 : True := trivial
theorem tw6409049710593738042 : True := trivial
theorem tw8505127795462855136 : True := trivial
theorem tw10868065863264303949 : True := trivial
theorem tw9123505677610529328 : True := trivial
theorem tw7263908795279480597 : True := trivial
theorem tw13952114742636264735 : True := trivial
theorem tw2953581581595995192 : True := trivial
theorem tw11232760113691846121 : True := trivial
theorem tw749598746373396292 : True := trivial
theorem tw6737427115506720255 : True := trivial
theorem tw3443252417858779280 : True := trivial
theorem tw2168124632074487024 : True := trivial
theorem tw9171965671021153215 : True := trivial
theorem tw10602226843626759633 : True := trivial
theorem tw16230533578377897566 : True := trivial
theorem tw1594354095786787272 : True := trivial
theorem tw17290294491175851508 : True := trivial
theorem tw8001225219198786667 : True := trivial
theorem tw13880497724967165507 : True := trivial
theorem tw13450783834873601288 : True := trivial
theorem tw630006952566986989 : True := trivial
theorem tw8087500866633166913 : True := trivial
theorem tw18307324455680402322 : True := trivial
theorem tw11429919278937363500 : True := trivial
theorem tw12233092024448130434 : True := trivial
theorem tw4469230470983667134 : True := trivial
theorem tw10012195138803764239 : True := trivial
theorem tw14555166868174174777 : True := trivial
theorem tw7497676627168652497 : True := trivial
theorem tw4780185083929469631 : True := trivial
theorem tw1312760787159307932 : True := trivial
theorem tw15874536307108069310 : True := trivial
theorem tw8063545594276301146 : True := trivial
theorem tw12151963863731166220 : True := trivial
theorem tw8525213749748728680 : True := trivial
theorem tw4781575130754073404 : True := trivial
theorem tw15142821325295150323 : True := trivial
theorem tw13944527818277572271 : True := trivial
theorem tw12580561953248443325 : True := trivial
theorem tw10543419010861787186 : True := trivial
theorem tw2993191840903817474 : True := trivial
theorem tw3506772734869382805 : True := trivial
theorem tw14001644589953132975 : True := trivial
theorem tw13184740361276663062 : True := trivial
theorem tw10876902397784148840 : True := trivial
theorem tw14666607810182354092 : True := trivial
theorem tw9685854924801443790 : True := trivial
theorem tw17499885930931671656 : True := trivial
theorem tw14330180749182787249 : True := trivial
theorem tw13734586016670454228 : True := trivial
theorem tw5719122309517293244 : True := trivial
theorem tw843891074787651420 : True := trivial
theorem tw1394267073330670266 : True := trivial
theorem tw1336790524466084631 : True := trivial
theorem tw1878211628579800593 : True := trivial
theorem tw9886336766695984265 : True := trivial
theorem tw13273582678893330144 : True := trivial
theorem tw10200805160279979299 : True := trivial
theorem tw4873643572350004593 : True := trivial
theorem tw11864225671587897478 : True := trivial
theorem tw14642501458699406184 : True := trivial
theorem tw10307216819514314879 : True := trivial
theorem tw16554706893821699380 : True := trivial
theorem tw7786257426741785029 : True := trivial
theorem tw14222521414278048675 : True := trivial
theorem tw4515099810811482703 : True := trivial
theorem tw13142449274231956400 : True := trivial
theorem tw10095914214644478495 : True := trivial
theorem tw7335314579027840099 : True := trivial
theorem tw1915311108277252516 : True := trivial
theorem tw17596511311328740080 : True := trivial
theorem tw6224289589610847759 : True := trivial
theorem tw542073926492599422 : True := trivial
theorem tw15339304552539498301 : True := trivial
theorem tw7954062361424833611 : True := trivial
theorem tw984638809602303933 : True := trivial
theorem tw2687416172352006696 : True := trivial
theorem tw7901297898993900125 : True := trivial
theorem tw10016921807727551605 : True := trivial
theorem tw2252003175510127855 : True := trivial
theorem tw11127610569257774351 : True := trivial
theorem tw3835383126287709917 : True := trivial
theorem tw5173401345669137075 : True := trivial
theorem tw14005591157204353366 : True := trivial
theorem tw823122487078390999 : True := trivial
theorem tw7159559656857061883 : True := trivial
theorem tw4682625676528399496 : True := trivial
theorem tw13011099010126274585 : True := trivial
theorem tw15943205911669082955 : True := trivial
theorem tw8725529769619681279 : True := trivial
theorem tw12579795791173495913 : True := trivial
theorem tw11665992980407929809 : True := trivial
theorem tw9231171981459417913 : True := trivial
theorem tw15411280910242667149 : True := trivial
theorem tw6988232979808476829 : True := trivial
theorem tw10463895538841289981 : True := trivial
theorem tw5619260606784367445 : True := trivial
theorem tw16882751578299701996 : True := trivial
theorem tw17946732493799497261 : True := trivial
theorem tw1304248925625677265 : True := trivial
theorem tw8965785793805639437 : True := trivial
theorem tw8994095315270563199 : True := trivial
theorem tw1384078722018226582 : True := trivial
theorem tw16366352069187566051 : True := trivial
theorem tw10689013704357756376 : True := trivial
theorem tw14535721392877707219 : True := trivial
theorem tw16662875206220623031 : True := trivial
theorem tw267701339312562544 : True := trivial
theorem tw8365049953237944207 : True := trivial
theorem tw1667707592785286811 : True := trivial
theorem tw447026545177283727 : True := trivial
theorem tw6578653741713366148 : True := trivial
theorem tw8259012394913871373 : True := trivial
theorem tw14288359057709427591 : True := trivial
theorem tw10444867800647210781 : True := trivial
theorem tw3460918698242038261 : True := trivial
theorem tw14959809049878943485 : True := trivial
theorem tw17582390241091551494 : True := trivial
theorem tw13163651951885796809 : True := trivial
theorem tw7188829066964901574 : True := trivial
theorem tw10871484200375142049 : True := trivial
theorem tw3435949251510135240 : True := trivial
theorem tw18151976543767544377 : True := trivial
theorem tw2645833240468632798 : True := trivial
theorem tw6157585617089325236 : True := trivial
theorem tw12399595071171171320 : True := trivial
theorem tw2537521175310065458 : True := trivial
theorem tw9288744496843529883 : True := trivial
theorem tw6519816016946263829 : True := trivial
theorem tw5830510060679719196 : True := trivial
theorem tw7517550785377063982 : True := trivial
theorem tw12921813233113745544 : True := trivial
theorem tw4571645212917930834 : True := trivial
theorem tw3660359742755792786 : True := trivial
theorem tw4126464090877799496 : True := trivial
theorem tw16365639709991726806 : True := trivial
theorem tw966068582242114066 : True := trivial
theorem tw14509008428233420612 : True := trivial
theorem tw5232696948252645853 : True := trivial
theorem tw9700427928934847021 : True := trivial
theorem tw10154156820508626093 : True := trivial
theorem tw2668778097501131919 : True := trivial
theorem tw8721899907294576248 : True := trivial
theorem tw18075744860849664492 : True := trivial
theorem tw8657007331989254344 : True := trivial
theorem tw5035556474545870037 : True := trivial
theorem tw14919717377034573254 : True := trivial
theorem tw9602974592123390498 : True := trivial
theorem tw4255447928504924035 : True := trivial
theorem tw16693723605713338925 : True := trivial
theorem tw1898859719681039898 : True := trivial
theorem tw15915747151653534044 : True := trivial
theorem tw122237591364491360 : True := trivial
theorem tw10236709746235196114 : True := trivial
theorem tw5895869988694745321 : True := trivial
theorem tw16674851833483385230 : True := trivial
theorem tw10190640910375658035 : True := trivial
theorem tw6775792093062012380 : True := trivial
theorem tw6157399434270792811 : True := trivial
theorem tw6614209482093195552 : True := trivial
theorem tw6121742125343232108 : True := trivial
theorem tw7139234525373240437 : True := trivial
theorem tw16249571795881522378 : True := trivial
theorem tw1014103885167950669 : True := trivial
theorem tw4963217697004706175 : True := trivial
theorem tw16708277308413473139 : True := trivial
theorem tw2426020232896079359 : True := trivial
theorem tw13152235187545061683 : True := trivial
theorem tw8053182984539454169 : True := trivial
theorem tw15001297241480929776 : True := trivial
theorem tw9293308269806164747 : True := trivial
theorem tw984770726358426285 : True := trivial
theorem tw3111051080395881868 : True := trivial
theorem tw5611364029767515215 : True := trivial
theorem tw5814500034744158078 : True := trivial
theorem tw3176101243644486128 : True := trivial
theorem tw17360176072860155340 : True := trivial
theorem tw440523812290345713 : True := trivial
theorem tw2139976492517796152 : True := trivial
theorem tw6982223899348850425 : True := trivial
theorem tw8928442455812407319 : True := trivial
theorem tw8587870545725666166 : True := trivial
theorem tw9283668690026671841 : True := trivial
theorem tw15824905698285993701 : True := trivial
theorem tw9015080835894491395 : True := trivial
theorem tw14236947704612085424 : True := trivial
theorem tw2648254798127803357 : True := trivial
theorem tw10389327385782574939 : True := trivial
theorem tw904986910531214564 : True := trivial
theorem tw2263736207762844301 : True := trivial
theorem tw15235913278392691343 : True := trivial
theorem tw13635297776181211027 : True := trivial
theorem tw142712856899031962 : True := trivial
theorem tw8633229857700239249 : True := trivial
theorem tw13506188741746294993 : True := trivial
theorem tw9079982821020554396 : True := trivial
theorem tw3670844549459622750 : True := trivial
theorem tw1595649031821724085 : True := trivial
theorem tw15679698180953727912 : True := trivial
theorem tw8437946358586653012 : True := trivial
theorem tw14090051009837206413 : True := trivial
theorem tw603553912488783436 : True := trivial
theorem tw7061241210852570431 : True := trivial
theorem tw1588056159342368366 : True := trivial
theorem tw11134857814001928312 : True := trivial
theorem tw2489969041285611946 : True := trivial
theorem tw8525462359846862265 : True := trivial
theorem tw8144487481194723374 : True := trivial
theorem tw14767684485577220555 : True := trivial
theorem tw16439044996171761897 : True := trivial
theorem tw3955332303758260757 : True := trivial
theorem tw2058854781295298706 : True := trivial
theorem tw17552077843168653126 : True := trivial
theorem tw15458949369692492180 : True := trivial
theorem tw8559154840766052565 : True := trivial
theorem tw200796973484665526 : True := trivial
theorem tw12117538430967150220 : True := trivial
theorem tw11710936617740250084 : True := trivial
theorem tw10192191548116957158 : True := trivial
theorem tw9515873941511950046 : True := trivial
theorem tw9782705712828349720 : True := trivial
theorem tw3396955397461006594 : True := trivial
theorem tw8540529962978687648 : True := trivial
theorem tw12603723947091103604 : True := trivial
theorem tw4546062743027742401 : True := trivial
theorem tw13482795937010926444 : True := trivial
theorem tw5425253109001106573 : True := trivial
theorem tw4116674647592920205 : True := trivial
theorem tw4208085429838313622 : True := trivial
theorem tw574165775971769897 : True := trivial
theorem tw16250664946912480124 : True := trivial
theorem tw5553631481898418000 : True := trivial
theorem tw9374993183927137871 : True := trivial
theorem tw10452525759537334427 : True := trivial
theorem tw1762314384263961048 : True := trivial
theorem tw11286403378961529749 : True := trivial
theorem tw14543629014840163950 : True := trivial
theorem tw314962765748592890 : True := trivial
theorem tw9218435993221559213 : True := trivial
theorem tw13976107848998367960 : True := trivial
theorem tw3546413042836248725 : True := trivial
theorem tw13762429692940509391 : True := trivial
theorem tw18130339089894305371 : True := trivial
theorem tw15022395397183620817 : True := trivial
theorem tw7606411518066187165 : True := trivial
theorem tw1093357397450983898 : True := trivial
theorem tw10276907365534204312 : True := trivial
theorem tw5398827458526099623 : True := trivial
theorem tw14133945453105578469 : True := trivial
theorem tw7303642002466381814 : True := trivial
theorem tw7824122690175441504 : True := trivial
theorem tw6203340880918657082 : True := trivial
theorem tw9088293175943623098 : True := trivial
theorem tw11230590720910519043 : True := trivial
theorem tw17403382277992178080 : True := trivial
theorem tw1006277779299157169 : True := trivial
theorem tw4284160800786358031 : True := trivial
theorem tw5829620044730546048 : True := trivial
theorem tw3194482894339395898 : True := trivial
theorem tw12594037004235236044 : True := trivial
theorem tw1754287505070987524 : True := trivial
theorem tw7491585281106393489 : True := trivial
theorem tw14844319315113437343 : True := trivial
theorem tw5815782075474916260 : True := trivial
theorem tw7432177019982090125 : True := trivial
theorem tw15086278499482234722 : True := trivial
theorem tw8923765495207263836 : True := trivial
theorem tw6236632784687929003 : True := trivial
theorem tw11017450724532923352 : True := trivial
theorem tw14175164832753771879 : True := trivial
theorem tw6884779901833398511 : True := trivial
theorem tw14472039213510404316 : True := trivial
theorem tw6693584888318465158 : True := trivial
theorem tw17629543105490120590 : True := trivial
theorem tw9398668630082179649 : True := trivial
theorem tw9132014793954192625 : True := trivial
theorem tw13317038745374271057 : True := trivial
theorem tw5944572013428428505 : True := trivial
theorem tw6893821570075910391 : True := trivial
theorem tw16853295109034100646 : True := trivial
theorem tw5084269548966047772 : True := trivial
theorem tw5664757295868583126 : True := trivial
theorem tw15209564769884985133 : True := trivial
theorem tw7785877647063891107 : True := trivial
theorem tw14510310583630348681 : True := trivial
theorem tw15789143683972775910 : True := trivial
theorem tw12853260204067392438 : True := trivial
theorem tw3884158918945146685 : True := trivial
theorem tw1717120295310810536 : True := trivial
theorem tw16047418136661831906 : True := trivial
theorem tw7185650922027723414 : True := trivial
theorem tw6735051788276359803 : True := trivial
theorem tw1660677404687056773 : True := trivial
theorem tw3309244683380264735 : True := trivial
theorem tw1871041638608088557 : True := trivial
theorem tw9783996445926822395 : True := trivial
theorem tw6856083390567431709 : True := trivial
theorem tw6257578076612378967 : True := trivial
theorem tw11577045946358555099 : True := trivial
theorem tw10513869153374607163 : True := trivial
theorem tw7286608788669400938 : True := trivial
theorem tw14828841652895817972 : True := trivial
theorem tw1333169039365723694 : True := trivial
theorem tw15271513406353854404 : True := trivial
theorem tw12014220047009936029 : True := trivial
theorem tw147921472991215979 : True := trivial
theorem tw11578470172697162198 : True := trivial
theorem tw8091660384301028078 : True := trivial
theorem tw5852475122724713156 : True := trivial
theorem tw6778800964930831102 : True := trivial
theorem tw2065660897431405808 : True := trivial
theorem tw15537283043701538765 : True := trivial
theorem tw432872727539259850 : True := trivial
theorem tw11523656044564305686 : True := trivial
theorem tw4815483317780028893 : True := trivial
theorem tw18281658873632145412 : True := trivial
theorem tw4848388093751109326 : True := trivial
theorem tw10967169243062481607 : True := trivial
theorem tw6827193872727769191 : True := trivial
theorem tw253771547528640746 : True := trivial
theorem tw17309106303045537608 : True := trivial
theorem tw14039321025147042916 : True := trivial
theorem tw14243044850955502246 : True := trivial
theorem tw12862661720059463037 : True := trivial
theorem tw751351154572952376 : True := trivial
theorem tw10458257614502036251 : True := trivial
theorem tw14024524154095040557 : True := trivial
theorem tw11192226625400378066 : True := trivial
theorem tw15305608786876300823 : True := trivial
theorem tw17271683049860767651 : True := trivial
theorem tw414728710121773855 : True := trivial
theorem tw2666684943653242534 : True := trivial
theorem tw8386617441834350735 : True := trivial
theorem tw1741672953832734676 : True := trivial
theorem tw4834067392870049515 : True := trivial
theorem tw15003979351946443135 : True := trivial
theorem tw17326922866449342313 : True := trivial
theorem tw7124100609088874607 : True := trivial
theorem tw14293769849518593286 : True := trivial
theorem tw14927377471056861183 : True := trivial
theorem tw18404020330234900163 : True := trivial
theorem tw10659023016234362015 : True := trivial
theorem tw14571643131697751237 : True := trivial
theorem tw17321053570118314534 : True := trivial
theorem tw8064872316493627301 : True := trivial
theorem tw13315351882062403001 : True := trivial
theorem tw8767394524488009046 : True := trivial
theorem tw4512534018793850213 : True := trivial
theorem tw13971708751151893358 : True := trivial
theorem tw2877139098585190221 : True := trivial
theorem tw14699481512684034281 : True := trivial
theorem tw13836552357853800039 : True := trivial
theorem tw14254894159560462277 : True := trivial
theorem tw10249401873487928447 : True := trivial
theorem tw13354421881013215003 : True := trivial
theorem tw10254705443634832680 : True := trivial
theorem tw3567879802291026368 : True := trivial
theorem tw1435201008246849501 : True := trivial
theorem tw15111411861815045850 : True := trivial
theorem tw8971118193084363985 : True := trivial
theorem tw14837710594343663421 : True := trivial
theorem tw14738597841760062678 : True := trivial
theorem tw17197263562279487547 : True := trivial
theorem tw10524248097074039162 : True := trivial
theorem tw11584454177884654289 : True := trivial
theorem tw227647577698711184 : True := trivial
theorem tw8138659657298085273 : True := trivial
theorem tw9189276001585982205 : True := trivial
theorem tw3403217406322250448 : True := trivial
theorem tw3921867116740240467 : True := trivial
theorem tw7031495269743489891 : True := trivial
theorem tw10504483069417134192 : True := trivial
theorem tw16842722467555203889 : True := trivial
theorem tw8285218827428934098 : True := trivial
theorem tw8422757426003774833 : True := trivial
theorem tw7633080699054929202 : True := trivial
theorem tw10014936771735371007 : True := trivial
theorem tw2621604792188486251 : True := trivial
theorem tw10373158547248303062 : True := trivial
theorem tw8793703963191445629 : True := trivial
theorem tw16965965241251041667 : True := trivial
theorem tw4363661331320702393 : True := trivial
theorem tw229285018296056459 : True := trivial
theorem tw11969980100962176969 : True := trivial
theorem tw569917190204341071 : True := trivial
theorem tw12178644760820935514 : True := trivial
theorem tw14813387671599252973 : True := trivial
theorem tw16194239098193817482 : True := trivial
theorem tw13674641126458207860 : True := trivial
theorem tw2764981362348209893 : True := trivial
theorem tw15346373709106637358 : True := trivial
theorem tw8684557256187405242 : True := trivial
theorem tw14643155107837202498 : True := trivial
theorem tw4970345407281530557 : True := trivial
theorem tw10060517777929425147 : True := trivial
theorem tw11540223388524350550 : True := trivial
theorem tw10450828349220089566 : True := trivial
theorem tw8539822617977603204 : True := trivial
theorem tw2378085737384590460 : True := trivial
theorem tw10260665132094596027 : True := trivial
theorem tw13000455701136736995 : True := trivial
theorem tw9739511903843951327 : True := trivial
theorem tw820580780365922884 : True := trivial
theorem tw17305158688661860143 : True := trivial
theorem tw13611517484273336430 : True := trivial
theorem tw8059645074041111685 : True := trivial
theorem tw392383320994192139 : True := trivial
theorem tw18397552968059382233 : True := trivial
theorem tw1670492911397681088 : True := trivial
theorem tw16495227342726111409 : True := trivial
theorem tw14500029478154847518 : True := trivial
theorem tw12999874484437850978 : True := trivial
theorem tw10717537595542200916 : True := trivial
theorem tw10249554748093521603 : True := trivial
theorem tw8172151916742606025 : True := trivial
theorem tw6005087593640249090 : True := trivial
theorem tw8187135734228282468 : True := trivial
theorem tw2033725241184459141 : True := trivial
theorem tw13928419317482387530 : True := trivial
theorem tw5843818583300617464 : True := trivial
theorem tw11529787421330749781 : True := trivial
theorem tw4404595894357750651 : True := trivial
theorem tw4843967685458361377 : True := trivial
theorem tw11503947167733923598 : True := trivial
theorem tw14369024946948814848 : True := trivial
theorem tw15266232675527059903 : True := trivial
theorem tw1517685774800297058 : True := trivial
theorem tw3093258490579259369 : True := trivial
theorem tw7219764568380108809 : True := trivial
theorem tw12258850879058893534 : True := trivial
theorem tw10326010108799579570 : True := trivial
theorem tw10838252313683294907 : True := trivial
theorem tw6463232905935484815 : True := trivial
theorem tw1247884233988124353 : True := trivial
theorem tw4574019127143220629 : True := trivial
theorem tw12148052452539561822 : True := trivial
theorem tw2579233220404579841 : True := trivial
theorem tw10348126482800780995 : True := trivial
theorem tw8245668525590517752 : True := trivial
theorem tw7649196215607924163 : True := trivial
theorem tw3329936598574631865 : True := trivial
theorem tw15021348336336046305 : True := trivial
theorem tw1969316179517409883 : True := trivial
theorem tw13101494868045432942 : True := trivial
theorem tw15433528121702493881 : True := trivial
theorem tw14421847396706032509 : True := trivial
theorem tw11874289098793992687 : True := trivial
theorem tw1613832675476597952 : True := trivial
theorem tw12189091916233465070 : True := trivial
theorem tw6954308144269788848 : True := trivial
theorem tw9983263142329857307 : True := trivial
theorem tw5180164708466071895 : True := trivial
theorem tw15347003118917631868 : True := trivial
theorem tw13642490598972071938 : True := trivial
theorem tw3174439999221272100 : True := trivial
theorem tw4408534103994555752 : True := trivial
theorem tw10206190980572879865 : True := trivial
theorem tw3638529544310743112 : True := trivial
theorem tw4569080236234418853 : True := trivial
theorem tw97392709571635921 : True := trivial
theorem tw12970451933147914967 : True := trivial
theorem tw7766935137438970761 : True := trivial
theorem tw15603089647271964672 : True := trivial
theorem tw2640303461996543608 : True := trivial
theorem tw11654169206038324916 : True := trivial
theorem tw6910967842422915738 : True := trivial
theorem tw7208459997083042839 : True := trivial
theorem tw17682696698575216744 : True := trivial
theorem tw5985943656048140307 : True := trivial
theorem tw15985468799841219990 : True := trivial
theorem tw17132206032294685152 : True := trivial
theorem tw7125555784906126807 : True := trivial
theorem tw3419146812589186986 : True := trivial
theorem tw1592598159208311368 : True := trivial
theorem tw14035999967909745633 : True := trivial
theorem tw13348817672886966492 : True := trivial
theorem tw10076816924153869361 : True := trivial
theorem tw12770519087687181932 : True := trivial
theorem tw17896714099039500152 : True := trivial
theorem tw4194411589758302485 : True := trivial
theorem tw68477522939497679 : True := trivial
theorem tw12792170206768947498 : True := trivial
theorem tw5343953342781474931 : True := trivial
theorem tw6074932024368004120 : True := trivial
theorem tw11125731386356609473 : True := trivial
theorem tw5896218517450446124 : True := trivial
theorem tw18408512378403052781 : True := trivial
theorem tw2677251465746816296 : True := trivial
end PySem.W.Fast
open PySem PySem.W PyProof.Rows
set_option maxRecDepth 100000 in
set_option maxHeartbeats 0 in
theorem PySem.Challenge.cw_twinsensors_s01_answers_holds : PySem.Challenge.rw_twinsensors_s01_answers.Holds := by
  w_on; k_headS; (case hw => exact ⟨[.list [.int 0, .int 1, .int 15]], by decide +kernel, by decide +kernel⟩)
  k_fillS
  refine L2.walk_specK (r := PySem.Challenge.rw_twinsensors_s01_answers) (k := 16) (CX := L2.CX0) (ps := ["calls"]) (sp := Tw.sp_answers) (by decide +kernel) rfl rfl ⟨rfl, by decide, by decide⟩ (fun w h Y => PySem.W.kIn_of Y) ?F ?S (fun _ _ _ _ z => z)
  case F =>
    intro w mg fa h Y KX G hmg
    refine' Tw.all_mk KX G hmg ⟨⟨Tw.gc_int KX G ?z49, Tw.gc_int KX G ?z50, Tw.gc_ref KX G ?z29, Tw.gc_int KX G ?z51, Tw.gc_int KX G ?z52, Tw.gc_int KX G ?z53, Tw.gc_int KX G ?z54, Tw.gc_int KX G ?z55, Tw.gc_int KX G ?z56, Tw.gc_int KX G ?z57, Tw.gc_int KX G ?z58, Tw.gc_int KX G ?z59, Tw.gc_ref KX G ?z28, Tw.gc_int KX G ?z60, Tw.gc_int KX G ?z61, Tw.gc_int KX G ?z62, Tw.gc_int KX G ?z63, Tw.gc_int KX G ?z64, Tw.gc_int KX G ?z65, Tw.gc_int KX G ?z66, Tw.gc_int KX G ?z67, Tw.gc_int KX G ?z68, Tw.gc_int KX G ?z69, Tw.gc_int KX G ?z70, Tw.gc_int KX G ?z71, Tw.gc_int KX G ?z72, Tw.gc_int KX G ?z73, Tw.gc_int KX G ?z74, Tw.gc_int KX G ?z75, Tw.gc_int KX G ?z76, PySem.W.mg_none_of KX G ?z77, PySem.W.mg_none_of KX G ?z78, PySem.W.mg_none_of KX G ?z79, PySem.W.mg_none_of KX G ?z80, PySem.W.mg_none_of KX G ?z81, PySem.W.mg_none_of KX G ?z82, PySem.W.mg_none_of KX G ?z83, PySem.W.mg_none_of KX G ?z84, PySem.W.mg_none_of KX G ?z85, ⟨?z86, ?z87, ?z88, ?z89⟩, Tw.no_at ?z90, Tw.no_at ?z91, Tw.no_at ?z92, Tw.no_at ?z93, Tw.no_at ?z94, Tw.no_at ?z95, Tw.no_at ?z96, ⟨?z97, ?z98, ?z99, ?z100⟩, Tw.no_at ?z101, Tw.no_at ?z102, Tw.no_at ?z103, Tw.no_at ?z104, Tw.no_at ?z105, Tw.no_at ?z106, ⟨?z107, ?z108, ?z109, ?z110⟩, Tw.no_at ?z111, Tw.no_at ?z112, Tw.no_at ?z113, Tw.no_at ?z114, ⟨?z115, ?z116, ?z117, ?z118⟩, Tw.no_at ?z119, Tw.no_at ?z120, Tw.no_at ?z121, Tw.no_at ?z122, Tw.no_at ?z123, Tw.no_at ?z124, Tw.no_at ?z125, Tw.no_at ?z126, Tw.tup_refs ?z30 (Nat.le_of_ble_eq_true rfl), rfl, (Tw.forms_at (Tw.tup_two ?z31) (Tw.tup_two ?z32) (Tw.tup_two ?z33) (Tw.tup_two ?z34) (Tw.tup_two ?z35) (Tw.tup_two ?z36) (Tw.tup_two ?z37) (Tw.tup_two ?z38) (Tw.tup_two ?z39) (Tw.tup_two ?z40) (Tw.tup_two ?z41) (Tw.tup_two ?z42) (Tw.tup_two ?z43) (Tw.tup_two ?z44) (Tw.tup_two ?z45) (Tw.tup_two ?z46) (Tw.tup_two ?z47)), Tw.tup_refs ?z48 (Nat.le_of_ble_eq_true rfl), rfl⟩,
      ⟨_, Tw.mk_def KX G ?z127 ?z128 ?z129⟩,
      ⟨_, Tw.mk_def KX G ?z130 ?z131 ?z132⟩,
      ⟨_, Tw.mk_def KX G ?z133 ?z134 ?z135⟩,
      ⟨_, Tw.mk_def KX G ?z136 ?z137 ?z138⟩,
      ⟨_, Tw.mk_def KX G ?z139 ?z140 ?z141⟩,
      ⟨_, Tw.mk_def KX G ?z142 ?z143 ?z144⟩,
      ⟨_, Tw.mk_def KX G ?z145 ?z146 ?z147⟩,
      ⟨_, Tw.mk_def KX G ?z148 ?z149 ?z150⟩,
      ⟨_, Tw.mk_def KX G ?z151 ?z152 ?z153⟩,
      ⟨_, Tw.mk_def KX G ?z154 ?z155 ?z156⟩,
      ⟨_, Tw.mk_def KX G ?z157 ?z158 ?z159⟩,
      ⟨_, Tw.mk_def KX G ?z160 ?z161 ?z162⟩,
      ⟨_, Tw.mk_def KX G ?z163 ?z164 ?z165⟩,
      ⟨_, Tw.mk_def KX G ?z166 ?z167 ?z168⟩,
      ⟨_, Tw.mk_def KX G ?z169 ?z170 ?z171⟩,
      ⟨_, Tw.mk_def KX G ?z172 ?z173 ?z174⟩,
      ⟨_, Tw.mk_def KX G ?z175 ?z176 ?z177⟩,
      ⟨_, Tw.mk_def KX G ?z178 ?z179 ?z180⟩,
      ⟨_, Tw.mk_def KX G ?z181 ?z182 ?z183⟩,
      ⟨_, Tw.mk_def KX G ?z184 ?z185 ?z186⟩,
      ⟨_, Tw.mk_def KX G ?z187 ?z188 ?z189⟩,
      ⟨_, Tw.mk_def KX G ?z190 ?z191 ?z192⟩,
      ⟨_, Tw.mk_def KX G ?z193 ?z194 ?z195⟩,
      ⟨_, Tw.mk_def KX G ?z196 ?z197 ?z198⟩,
      ⟨_, Tw.mk_def KX G ?z199 ?z200 ?z201⟩,
      ⟨_, Tw.mk_def KX G ?z202 ?z203 ?z204⟩,
      ⟨_, Tw.mk_def KX G ?z205 ?z206 ?z207⟩,
      ⟨_, Tw.mk_def KX G ?z208 ?z209 ?z210⟩,
      ⟨_, Tw.mk_def KX G ?z211 ?z212 ?z213⟩,
      ⟨_, Tw.mk_def KX G ?z214 ?z215 ?z216⟩,
      ⟨_, Tw.mk_def KX G ?z217 ?z218 ?z219⟩,
      ⟨_, Tw.mk_def KX G ?z220 ?z221 ?z222⟩,
      ⟨_, Tw.mk_def KX G ?z223 ?z224 ?z225⟩,
      ⟨_, Tw.mk_def KX G ?z226 ?z227 ?z228⟩,
      ⟨_, Tw.mk_def KX G ?z229 ?z230 ?z231⟩,
      ⟨_, rfl, Tw.mk_def KX G ?z232 ?z233 ?z234⟩,
      ⟨_, rfl, Tw.mk_def KX G ?z235 ?z236 ?z237⟩,
      ⟨_, rfl, Tw.mk_def KX G ?z238 ?z239 ?z240⟩,
      ⟨_, rfl, Tw.mk_def KX G ?z241 ?z242 ?z243⟩,
      ⟨_, rfl, Tw.mk_def KX G ?z244 ?z245 ?z246⟩,
      ⟨_, rfl, Tw.mk_def KX G ?z247 ?z248 ?z249⟩,
      ⟨_, rfl, Tw.mk_def KX G ?z250 ?z251 ?z252⟩,
      ⟨_, rfl, Tw.mk_def KX G ?z253 ?z254 ?z255⟩,
      ⟨_, rfl, Tw.mk_def KX G ?z256 ?z257 ?z258⟩,
      ⟨_, rfl, Tw.mk_def KX G ?z259 ?z260 ?z261⟩,
      ⟨_, rfl, Tw.mk_def KX G ?z262 ?z263 ?z264⟩,
      ⟨_, rfl, Tw.mk_def KX G ?z265 ?z266 ?z267⟩,
      ⟨_, rfl, Tw.mk_def KX G ?z268 ?z269 ?z270⟩,
      ⟨_, rfl, Tw.mk_def KX G ?z271 ?z272 ?z273⟩,
      ⟨_, rfl, Tw.mk_def KX G ?z274 ?z275 ?z276⟩,
      ⟨_, rfl, Tw.mk_def KX G ?z277 ?z278 ?z279⟩,
      ⟨_, rfl, Tw.mk_def KX G ?z280 ?z281 ?z282⟩,
      Tw.mk_met ?z283 ?z284 ?z285 ?z286,
      Tw.mk_met ?z287 ?z288 ?z289 ?z290,
      Tw.mk_met ?z291 ?z292 ?z293 ?z294,
      Tw.mk_met ?z295 ?z296 ?z297 ?z298,
      Tw.mk_met ?z299 ?z300 ?z301 ?z302,
      Tw.mk_met ?z303 ?z304 ?z305 ?z306,
      Tw.mk_met ?z307 ?z308 ?z309 ?z310,
      Tw.mk_met ?z311 ?z312 ?z313 ?z314,
      Tw.mk_met ?z315 ?z316 ?z317 ?z318,
      Tw.mk_met ?z319 ?z320 ?z321 ?z322,
      Tw.mk_met ?z323 ?z324 ?z325 ?z326,
      Tw.mk_met ?z327 ?z328 ?z329 ?z330,
      Tw.mk_met ?z331 ?z332 ?z333 ?z334,
      Tw.mk_met ?z335 ?z336 ?z337 ?z338,
      Tw.mk_met ?z339 ?z340 ?z341 ?z342,
      Tw.mk_met ?z343 ?z344 ?z345 ?z346,
      Tw.mk_met ?z347 ?z348 ?z349 ?z350,
      Tw.mk_met ?z351 ?z352 ?z353 ?z354,
      Tw.mk_met ?z355 ?z356 ?z357 ?z358,
      Tw.mk_met ?z359 ?z360 ?z361 ?z362,
      Tw.mk_met ?z363 ?z364 ?z365 ?z366,
      Tw.mk_met ?z367 ?z368 ?z369 ?z370,
      Tw.mk_met ?z371 ?z372 ?z373 ?z374,
      Tw.mk_met ?z375 ?z376 ?z377 ?z378,
      Tw.mk_met ?z379 ?z380 ?z381 ?z382,
      Tw.mk_met ?z383 ?z384 ?z385 ?z386,
      Tw.mk_met ?z387 ?z388 ?z389 ?z390,
      Tw.mk_met ?z391 ?z392 ?z393 ?z394,
      Tw.mk_met ?z395 ?z396 ?z397 ?z398,
      Tw.mk_met ?z399 ?z400 ?z401 ?z402,
      Tw.mk_met ?z403 ?z404 ?z405 ?z406,
      Tw.mk_mak KX G ?z0 ?z1 ?z2 ?z3 ?z4 ?z5 ?z6,
      Tw.mk_mak KX G ?z7 ?z8 ?z9 ?z10 ?z11 ?z12 ?z13,
      Tw.mk_mak KX G ?z14 ?z15 ?z16 ?z17 ?z18 ?z19 ?z20,
      Tw.mk_mak KX G ?z21 ?z22 ?z23 ?z24 ?z25 ?z26 ?z27,
      ⟨_, Tw.mk_def KX G ?z407 ?z408 ?z409⟩⟩
    (case z0 => (try dsimp only); k_is)
    (case z1 => (try dsimp only); k_is)
    (case z2 => (try dsimp only); k_is)
    (case z3 => (try dsimp only); k_is)
    (case z4 => (try dsimp only); k_is)
    (case z5 => (try dsimp only); k_is)
    (case z6 => (try dsimp only); k_is)
    (case z7 => (try dsimp only); k_is)
    (case z8 => (try dsimp only); k_is)
    (case z9 => (try dsimp only); k_is)
    (case z10 => (try dsimp only); k_is)
    (case z11 => (try dsimp only); k_is)
    (case z12 => (try dsimp only); k_is)
    (case z13 => (try dsimp only); k_is)
    (case z14 => (try dsimp only); k_is)
    (case z15 => (try dsimp only); k_is)
    (case z16 => (try dsimp only); k_is)
    (case z17 => (try dsimp only); k_is)
    (case z18 => (try dsimp only); k_is)
    (case z19 => (try dsimp only); k_is)
    (case z20 => (try dsimp only); k_is)
    (case z21 => (try dsimp only); k_is)
    (case z22 => (try dsimp only); k_is)
    (case z23 => (try dsimp only); k_is)
    (case z24 => (try dsimp only); k_is)
    (case z25 => (try dsimp only); k_is)
    (case z26 => (try dsimp only); k_is)
    (case z27 => (try dsimp only); k_is)
    (case z28 => (try dsimp only); k_is)
    (case z29 => (try dsimp only); k_is)
    (case z30 => (try dsimp only); k_is)
    (case z31 => (try dsimp only); k_is)
    (case z32 => (try dsimp only); k_is)
    (case z33 => (try dsimp only); k_is)
    (case z34 => (try dsimp only); k_is)
    (case z35 => (try dsimp only); k_is)
    (case z36 => (try dsimp only); k_is)
    (case z37 => (try dsimp only); k_is)
    (case z38 => (try dsimp only); k_is)
    (case z39 => (try dsimp only); k_is)
    (case z40 => (try dsimp only); k_is)
    (case z41 => (try dsimp only); k_is)
    (case z42 => (try dsimp only); k_is)
    (case z43 => (try dsimp only); k_is)
    (case z44 => (try dsimp only); k_is)
    (case z45 => (try dsimp only); k_is)
    (case z46 => (try dsimp only); k_is)
    (case z47 => (try dsimp only); k_is)
    (case z48 => (try dsimp only); k_is)
    (case z49 => (try dsimp only); k_is)
    (case z50 => (try dsimp only); k_is)
    (case z51 => (try dsimp only); k_is)
    (case z52 => (try dsimp only); k_is)
    (case z53 => (try dsimp only); k_is)
    (case z54 => (try dsimp only); k_is)
    (case z55 => (try dsimp only); k_is)
    (case z56 => (try dsimp only); k_is)
    (case z57 => (try dsimp only); k_is)
    (case z58 => (try dsimp only); k_is)
    (case z59 => (try dsimp only); k_is)
    (case z60 => (try dsimp only); k_is)
    (case z61 => (try dsimp only); k_is)
    (case z62 => (try dsimp only); k_is)
    (case z63 => (try dsimp only); k_is)
    (case z64 => (try dsimp only); k_is)
    (case z65 => (try dsimp only); k_is)
    (case z66 => (try dsimp only); k_is)
    (case z67 => (try dsimp only); k_is)
    (case z68 => (try dsimp only); k_is)
    (case z69 => (try dsimp only); k_is)
    (case z70 => (try dsimp only); k_is)
    (case z71 => (try dsimp only); k_is)
    (case z72 => (try dsimp only); k_is)
    (case z73 => (try dsimp only); k_is)
    (case z74 => (try dsimp only); k_is)
    (case z75 => (try dsimp only); k_is)
    (case z76 => (try dsimp only); k_is)
    (case z77 => (try dsimp only); k_is)
    (case z78 => (try dsimp only); k_is)
    (case z79 => (try dsimp only); k_is)
    (case z80 => (try dsimp only); k_is)
    (case z81 => (try dsimp only); k_is)
    (case z82 => (try dsimp only); k_is)
    (case z83 => (try dsimp only); k_is)
    (case z84 => (try dsimp only); k_is)
    (case z85 => (try dsimp only); k_is)
    (case z86 => (try dsimp only); k_is)
    (case z87 => (try dsimp only); k_is)
    (case z88 => (try dsimp only); k_is)
    (case z89 => (try dsimp only); k_is)
    (case z90 => (try dsimp only); k_is)
    (case z91 => (try dsimp only); k_is)
    (case z92 => (try dsimp only); k_is)
    (case z93 => (try dsimp only); k_is)
    (case z94 => (try dsimp only); k_is)
    (case z95 => (try dsimp only); k_is)
    (case z96 => (try dsimp only); k_is)
    (case z97 => (try dsimp only); k_is)
    (case z98 => (try dsimp only); k_is)
    (case z99 => (try dsimp only); k_is)
    (case z100 => (try dsimp only); k_is)
    (case z101 => (try dsimp only); k_is)
    (case z102 => (try dsimp only); k_is)
    (case z103 => (try dsimp only); k_is)
    (case z104 => (try dsimp only); k_is)
    (case z105 => (try dsimp only); k_is)
    (case z106 => (try dsimp only); k_is)
    (case z107 => (try dsimp only); k_is)
    (case z108 => (try dsimp only); k_is)
    (case z109 => (try dsimp only); k_is)
    (case z110 => (try dsimp only); k_is)
    (case z111 => (try dsimp only); k_is)
    (case z112 => (try dsimp only); k_is)
    (case z113 => (try dsimp only); k_is)
    (case z114 => (try dsimp only); k_is)
    (case z115 => (try dsimp only); k_is)
    (case z116 => (try dsimp only); k_is)
    (case z117 => (try dsimp only); k_is)
    (case z118 => (try dsimp only); k_is)
    (case z119 => (try dsimp only); k_is)
    (case z120 => (try dsimp only); k_is)
    (case z121 => (try dsimp only); k_is)
    (case z122 => (try dsimp only); k_is)
    (case z123 => (try dsimp only); k_is)
    (case z124 => (try dsimp only); k_is)
    (case z125 => (try dsimp only); k_is)
    (case z126 => (try dsimp only); k_is)
    (case z127 => (try dsimp only); k_is)
    (case z128 => (try dsimp only); k_is)
    (case z129 => (try dsimp only); k_is)
    (case z130 => (try dsimp only); k_is)
    (case z131 => (try dsimp only); k_is)
    (case z132 => (try dsimp only); k_is)
    (case z133 => (try dsimp only); k_is)
    (case z134 => (try dsimp only); k_is)
    (case z135 => (try dsimp only); k_is)
    (case z136 => (try dsimp only); k_is)
    (case z137 => (try dsimp only); k_is)
    (case z138 => (try dsimp only); k_is)
    (case z139 => (try dsimp only); k_is)
    (case z140 => (try dsimp only); k_is)
    (case z141 => (try dsimp only); k_is)
    (case z142 => (try dsimp only); k_is)
    (case z143 => (try dsimp only); k_is)
    (case z144 => (try dsimp only); k_is)
    (case z145 => (try dsimp only); k_is)
    (case z146 => (try dsimp only); k_is)
    (case z147 => (try dsimp only); k_is)
    (case z148 => (try dsimp only); k_is)
    (case z149 => (try dsimp only); k_is)
    (case z150 => (try dsimp only); k_is)
    (case z151 => (try dsimp only); k_is)
    (case z152 => (try dsimp only); k_is)
    (case z153 => (try dsimp only); k_is)
    (case z154 => (try dsimp only); k_is)
    (case z155 => (try dsimp only); k_is)
    (case z156 => (try dsimp only); k_is)
    (case z157 => (try dsimp only); k_is)
    (case z158 => (try dsimp only); k_is)
    (case z159 => (try dsimp only); k_is)
    (case z160 => (try dsimp only); k_is)
    (case z161 => (try dsimp only); k_is)
    (case z162 => (try dsimp only); k_is)
    (case z163 => (try dsimp only); k_is)
    (case z164 => (try dsimp only); k_is)
    (case z165 => (try dsimp only); k_is)
    (case z166 => (try dsimp only); k_is)
    (case z167 => (try dsimp only); k_is)
    (case z168 => (try dsimp only); k_is)
    (case z169 => (try dsimp only); k_is)
    (case z170 => (try dsimp only); k_is)
    (case z171 => (try dsimp only); k_is)
    (case z172 => (try dsimp only); k_is)
    (case z173 => (try dsimp only); k_is)
    (case z174 => (try dsimp only); k_is)
    (case z175 => (try dsimp only); k_is)
    (case z176 => (try dsimp only); k_is)
    (case z177 => (try dsimp only); k_is)
    (case z178 => (try dsimp only); k_is)
    (case z179 => (try dsimp only); k_is)
    (case z180 => (try dsimp only); k_is)
    (case z181 => (try dsimp only); k_is)
    (case z182 => (try dsimp only); k_is)
    (case z183 => (try dsimp only); k_is)
    (case z184 => (try dsimp only); k_is)
    (case z185 => (try dsimp only); k_is)
    (case z186 => (try dsimp only); k_is)
    (case z187 => (try dsimp only); k_is)
    (case z188 => (try dsimp only); k_is)
    (case z189 => (try dsimp only); k_is)
    (case z190 => (try dsimp only); k_is)
    (case z191 => (try dsimp only); k_is)
    (case z192 => (try dsimp only); k_is)
    (case z193 => (try dsimp only); k_is)
    (case z194 => (try dsimp only); k_is)
    (case z195 => (try dsimp only); k_is)
    (case z196 => (try dsimp only); k_is)
    (case z197 => (try dsimp only); k_is)
    (case z198 => (try dsimp only); k_is)
    (case z199 => (try dsimp only); k_is)
    (case z200 => (try dsimp only); k_is)
    (case z201 => (try dsimp only); k_is)
    (case z202 => (try dsimp only); k_is)
    (case z203 => (try dsimp only); k_is)
    (case z204 => (try dsimp only); k_is)
    (case z205 => (try dsimp only); k_is)
    (case z206 => (try dsimp only); k_is)
    (case z207 => (try dsimp only); k_is)
    (case z208 => (try dsimp only); k_is)
    (case z209 => (try dsimp only); k_is)
    (case z210 => (try dsimp only); k_is)
    (case z211 => (try dsimp only); k_is)
    (case z212 => (try dsimp only); k_is)
    (case z213 => (try dsimp only); k_is)
    (case z214 => (try dsimp only); k_is)
    (case z215 => (try dsimp only); k_is)
    (case z216 => (try dsimp only); k_is)
    (case z217 => (try dsimp only); k_is)
    (case z218 => (try dsimp only); k_is)
    (case z219 => (try dsimp only); k_is)
    (case z220 => (try dsimp only); k_is)
    (case z221 => (try dsimp only); k_is)
    (case z222 => (try dsimp only); k_is)
    (case z223 => (try dsimp only); k_is)
    (case z224 => (try dsimp only); k_is)
    (case z225 => (try dsimp only); k_is)
    (case z226 => (try dsimp only); k_is)
    (case z227 => (try dsimp only); k_is)
    (case z228 => (try dsimp only); k_is)
    (case z229 => (try dsimp only); k_is)
    (case z230 => (try dsimp only); k_is)
    (case z231 => (try dsimp only); k_is)
    (case z232 => (try dsimp only); k_is)
    (case z233 => (try dsimp only); k_is)
    (case z234 => (try dsimp only); k_is)
    (case z235 => (try dsimp only); k_is)
    (case z236 => (try dsimp only); k_is)
    (case z237 => (try dsimp only); k_is)
    (case z238 => (try dsimp only); k_is)
    (case z239 => (try dsimp only); k_is)
    (case z240 => (try dsimp only); k_is)
    (case z241 => (try dsimp only); k_is)
    (case z242 => (try dsimp only); k_is)
    (case z243 => (try dsimp only); k_is)
    (case z244 => (try dsimp only); k_is)
    (case z245 => (try dsimp only); k_is)
    (case z246 => (try dsimp only); k_is)
    (case z247 => (try dsimp only); k_is)
    (case z248 => (try dsimp only); k_is)
    (case z249 => (try dsimp only); k_is)
    (case z250 => (try dsimp only); k_is)
    (case z251 => (try dsimp only); k_is)
    (case z252 => (try dsimp only); k_is)
    (case z253 => (try dsimp only); k_is)
    (case z254 => (try dsimp only); k_is)
    (case z255 => (try dsimp only); k_is)
    (case z256 => (try dsimp only); k_is)
    (case z257 => (try dsimp only); k_is)
    (case z258 => (try dsimp only); k_is)
    (case z259 => (try dsimp only); k_is)
    (case z260 => (try dsimp only); k_is)
    (case z261 => (try dsimp only); k_is)
    (case z262 => (try dsimp only); k_is)
    (case z263 => (try dsimp only); k_is)
    (case z264 => (try dsimp only); k_is)
    (case z265 => (try dsimp only); k_is)
    (case z266 => (try dsimp only); k_is)
    (case z267 => (try dsimp only); k_is)
    (case z268 => (try dsimp only); k_is)
    (case z269 => (try dsimp only); k_is)
    (case z270 => (try dsimp only); k_is)
    (case z271 => (try dsimp only); k_is)
    (case z272 => (try dsimp only); k_is)
    (case z273 => (try dsimp only); k_is)
    (case z274 => (try dsimp only); k_is)
    (case z275 => (try dsimp only); k_is)
    (case z276 => (try dsimp only); k_is)
    (case z277 => (try dsimp only); k_is)
    (case z278 => (try dsimp only); k_is)
    (case z279 => (try dsimp only); k_is)
    (case z280 => (try dsimp only); k_is)
    (case z281 => (try dsimp only); k_is)
    (case z282 => (try dsimp only); k_is)
    (case z283 => (try dsimp only); k_is)
    (case z284 => (try dsimp only); k_is)
    (case z285 => (try dsimp only); k_is)
    (case z286 => (try dsimp only); k_is)
    (case z287 => (try dsimp only); k_is)
    (case z288 => (try dsimp only); k_is)
    (case z289 => (try dsimp only); k_is)
    (case z290 => (try dsimp only); k_is)
    (case z291 => (try dsimp only); k_is)
    (case z292 => (try dsimp only); k_is)
    (case z293 => (try dsimp only); k_is)
    (case z294 => (try dsimp only); k_is)
    (case z295 => (try dsimp only); k_is)
    (case z296 => (try dsimp only); k_is)
    (case z297 => (try dsimp only); k_is)
    (case z298 => (try dsimp only); k_is)
    (case z299 => (try dsimp only); k_is)
    (case z300 => (try dsimp only); k_is)
    (case z301 => (try dsimp only); k_is)
    (case z302 => (try dsimp only); k_is)
    (case z303 => (try dsimp only); k_is)
    (case z304 => (try dsimp only); k_is)
    (case z305 => (try dsimp only); k_is)
    (case z306 => (try dsimp only); k_is)
    (case z307 => (try dsimp only); k_is)
    (case z308 => (try dsimp only); k_is)
    (case z309 => (try dsimp only); k_is)
    (case z310 => (try dsimp only); k_is)
    (case z311 => (try dsimp only); k_is)
    (case z312 => (try dsimp only); k_is)
    (case z313 => (try dsimp only); k_is)
    (case z314 => (try dsimp only); k_is)
    (case z315 => (try dsimp only); k_is)
    (case z316 => (try dsimp only); k_is)
    (case z317 => (try dsimp only); k_is)
    (case z318 => (try dsimp only); k_is)
    (case z319 => (try dsimp only); k_is)
    (case z320 => (try dsimp only); k_is)
    (case z321 => (try dsimp only); k_is)
    (case z322 => (try dsimp only); k_is)
    (case z323 => (try dsimp only); k_is)
    (case z324 => (try dsimp only); k_is)
    (case z325 => (try dsimp only); k_is)
    (case z326 => (try dsimp only); k_is)
    (case z327 => (try dsimp only); k_is)
    (case z328 => (try dsimp only); k_is)
    (case z329 => (try dsimp only); k_is)
    (case z330 => (try dsimp only); k_is)
    (case z331 => (try dsimp only); k_is)
    (case z332 => (try dsimp only); k_is)
    (case z333 => (try dsimp only); k_is)
    (case z334 => (try dsimp only); k_is)
    (case z335 => (try dsimp only); k_is)
    (case z336 => (try dsimp only); k_is)
    (case z337 => (try dsimp only); k_is)
    (case z338 => (try dsimp only); k_is)
    (case z339 => (try dsimp only); k_is)
    (case z340 => (try dsimp only); k_is)
    (case z341 => (try dsimp only); k_is)
    (case z342 => (try dsimp only); k_is)
    (case z343 => (try dsimp only); k_is)
    (case z344 => (try dsimp only); k_is)
    (case z345 => (try dsimp only); k_is)
    (case z346 => (try dsimp only); k_is)
    (case z347 => (try dsimp only); k_is)
    (case z348 => (try dsimp only); k_is)
    (case z349 => (try dsimp only); k_is)
    (case z350 => (try dsimp only); k_is)
    (case z351 => (try dsimp only); k_is)
    (case z352 => (try dsimp only); k_is)
    (case z353 => (try dsimp only); k_is)
    (case z354 => (try dsimp only); k_is)
    (case z355 => (try dsimp only); k_is)
    (case z356 => (try dsimp only); k_is)
    (case z357 => (try dsimp only); k_is)
    (case z358 => (try dsimp only); k_is)
    (case z359 => (try dsimp only); k_is)
    (case z360 => (try dsimp only); k_is)
    (case z361 => (try dsimp only); k_is)
    (case z362 => (try dsimp only); k_is)
    (case z363 => (try dsimp only); k_is)
    (case z364 => (try dsimp only); k_is)
    (case z365 => (try dsimp only); k_is)
    (case z366 => (try dsimp only); k_is)
    (case z367 => (try dsimp only); k_is)
    (case z368 => (try dsimp only); k_is)
    (case z369 => (try dsimp only); k_is)
    (case z370 => (try dsimp only); k_is)
    (case z371 => (try dsimp only); k_is)
    (case z372 => (try dsimp only); k_is)
    (case z373 => (try dsimp only); k_is)
    (case z374 => (try dsimp only); k_is)
    (case z375 => (try dsimp only); k_is)
    (case z376 => (try dsimp only); k_is)
    (case z377 => (try dsimp only); k_is)
    (case z378 => (try dsimp only); k_is)
    (case z379 => (try dsimp only); k_is)
    (case z380 => (try dsimp only); k_is)
    (case z381 => (try dsimp only); k_is)
    (case z382 => (try dsimp only); k_is)
    (case z383 => (try dsimp only); k_is)
    (case z384 => (try dsimp only); k_is)
    (case z385 => (try dsimp only); k_is)
    (case z386 => (try dsimp only); k_is)
    (case z387 => (try dsimp only); k_is)
    (case z388 => (try dsimp only); k_is)
    (case z389 => (try dsimp only); k_is)
    (case z390 => (try dsimp only); k_is)
    (case z391 => (try dsimp only); k_is)
    (case z392 => (try dsimp only); k_is)
    (case z393 => (try dsimp only); k_is)
    (case z394 => (try dsimp only); k_is)
    (case z395 => (try dsimp only); k_is)
    (case z396 => (try dsimp only); k_is)
    (case z397 => (try dsimp only); k_is)
    (case z398 => (try dsimp only); k_is)
    (case z399 => (try dsimp only); k_is)
    (case z400 => (try dsimp only); k_is)
    (case z401 => (try dsimp only); k_is)
    (case z402 => (try dsimp only); k_is)
    (case z403 => (try dsimp only); k_is)
    (case z404 => (try dsimp only); k_is)
    (case z405 => (try dsimp only); k_is)
    (case z406 => (try dsimp only); k_is)
    (case z407 => (try dsimp only); k_is)
    (case z408 => (try dsimp only); k_is)
    (case z409 => (try dsimp only); k_is)
  case S =>
    intro K H xs a hO hwi hask hx
    cases hx with
    | cons h1 h2 =>
      cases h2
      cases h1 with
      | lst hs ha =>
        have e := L2.ints_dw a.1 _ ha
        subst e
        have q : ((Codec.inLen 0 17000 a.1 && a.1.all (Codec.inInt (-1000000000000000000) 1000000000000000000)) && true) = true := hwi
        rw [Bool.and_eq_true, Bool.and_eq_true] at q
        refine ⟨rfl, _, a.1, rfl, hs, (Codec.inNat_iff.mp q.1.1).2, fun n hn => ?_, hask, fun H' p hp => .lst (L2.SqL.of hp) (L2.dw_ints _)⟩
        have q2 := List.all_eq_true.mp q.1.2 n hn
        exact Codec.inInt_iff.mp q2
#print axioms PySem.Challenge.cw_twinsensors_s01_answers_holds
