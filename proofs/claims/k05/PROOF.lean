import PyProof.Rows.All
import Wide.All
import OpenK.AllK
import Wide.FinOn
import Lean
import PyProof.EqAt
import PyProof.EqKinds
import PyProof.TupleCall
import PySem.Challenge.RW_hedgerow_k05_spoilt_texts
set_option Elab.async false
set_option linter.all false
set_option maxRecDepth 100000
namespace L2
open PySem PySem.Spec PyProof.Rows
abbrev Key := Sum Int Str
def keyIs : Key → Value → Bool
  | .inl k, v => Value.isInt k v
  | .inr x, v => Value.isStrOf x v
def keyH (w : World) : Key → Int
  | .inl k => hashInt k
  | .inr x => hashStr w x
theorem keyIs_shape : ∀ {k : Key} {v : Value}, keyIs k v = true → (∃ i t, k = Sum.inl i ∧ v = Value.int i t) ∨ (∃ x t, k = Sum.inr x ∧ v = Value.str x t)
  | .inl i, v, h => by
    obtain ⟨t, e⟩ := Value.isInt_shape (k := i) (v := v) h
    exact .inl ⟨i, t, rfl, e⟩
  | .inr x, v, h => by
    obtain ⟨t, e⟩ := Value.isStrOf_shape (x := x) (v := v) h
    exact .inr ⟨x, t, rfl, e⟩
theorem keyIs_int (i : Int) (t : Tok) : keyIs (.inl i) (.int i t) = true := by simp [keyIs, Value.isInt]
theorem keyIs_str (x : Str) (t : Tok) : keyIs (.inr x) (.str x t) = true := by simp [keyIs, Value.isStrOf]
theorem key_ll (a b : Int) : decide ((Sum.inl a : Key) = Sum.inl b) = (a == b) := by
  by_cases e : a = b
  · subst e; simp
  · have h : ¬ (Sum.inl a : Key) = Sum.inl b := fun q => e (Sum.inl.inj q)
    rw [decide_eq_false h]
    exact (beq_eq_false_iff_ne.mpr e).symm
theorem key_rr (a b : Str) : decide ((Sum.inr a : Key) = Sum.inr b) = decide (a = b) := by
  by_cases e : a = b
  · subst e; simp
  · have h : ¬ (Sum.inr a : Key) = Sum.inr b := fun q => e (Sum.inr.inj q)
    rw [decide_eq_false h, decide_eq_false e]
theorem key_lr (a : Int) (b : Str) : decide ((Sum.inl a : Key) = Sum.inr b) = false := decide_eq_false (fun q => nomatch q)
theorem key_rl (a : Str) (b : Int) : decide ((Sum.inr a : Key) = Sum.inl b) = false := decide_eq_false (fun q => nomatch q)
def mixKind (prog : Program) (w : World) : PySem.KeyKind prog w Key where
  is := keyIs
  hash := keyH w
  inj := fun v a b ha hb => by
    rcases keyIs_shape ha with ⟨i, t, rfl, rfl⟩ | ⟨x, t, rfl, rfl⟩
    · rcases keyIs_shape hb with ⟨j, u, rfl, e⟩ | ⟨y, u, rfl, e⟩
      · injection e with e1 _; rw [e1]
      · exact nomatch e
    · rcases keyIs_shape hb with ⟨j, u, rfl, e⟩ | ⟨y, u, rfl, e⟩
      · exact nomatch e
      · injection e with e1 _; rw [e1]
  byValue := fun k v h => by
    rcases keyIs_shape h with ⟨i, t, rfl, rfl⟩ | ⟨x, t, rfl, rfl⟩ <;> rfl
  pyHash := fun hv h => by
    rcases keyIs_shape hv with ⟨i, t, rfl, rfl⟩ | ⟨x, t, rfl, rfl⟩
    · exact wpAny_pyHash_int h
    · exact wpAny_pyHash_str h
  eqBool := fun hu hv h => by
    rcases keyIs_shape hu with ⟨i, t, rfl, rfl⟩ | ⟨x, t, rfl, rfl⟩
    · rcases keyIs_shape hv with ⟨j, u, rfl, rfl⟩ | ⟨y, u, rfl, rfl⟩
      · rw [key_ll] at h; exact wpAny_eqBool_int h
      · rw [key_lr] at h; exact SeqAt.EqAt.int_str i t y u _ _ _ _ h
    · rcases keyIs_shape hv with ⟨j, u, rfl, rfl⟩ | ⟨y, u, rfl, rfl⟩
      · rw [key_rl] at h; exact SeqAt.EqAt.str_int x t j u _ _ _ _ h
      · rw [key_rr] at h; exact wpAny_eqBool_str h
  «strs» := fun k x t v h => by
    rcases keyIs_shape h with ⟨i, u, rfl, e⟩ | ⟨y, u, rfl, e⟩
    · exact nomatch e
    · injection e with e1 _
      subst e1
      cases v <;> rfl
theorem mixKind_is (prog : Program) (w : World) (k : Key) (v : Value) : (mixKind prog w).is k v = keyIs k v := rfl
theorem mixKind_int (prog : Program) (w : World) (i : Int) (t : Tok) : (mixKind prog w).is (.inl i) (.int i t) = true := keyIs_int i t
theorem mixKind_str (prog : Program) (w : World) (x : Str) (t : Tok) : (mixKind prog w).is (.inr x) (.str x t) = true := keyIs_str x t
end L2
namespace L2
open PySem PySem.Spec PyProof.Rows
inductive V where
  | non | bl (b : Bool) | int (i : Int) | str (x : Str) | byt (b : Array UInt8) | flt (b : UInt64) | ref (a : Addr) | ty (n : String)
  deriving DecidableEq
def RelV : V → Value → Prop
  | .non, u => u = Value.none
  | .bl b, u => u = Value.bool b
  | .int i, u => ∃ t, u = Value.int i t
  | .str x, u => ∃ t, u = Value.str x t
  | .byt b, u => ∃ t, u = Value.bytes b t
  | .flt b, u => ∃ t, u = Value.float b t
  | .ref a, u => u = Value.ref a
  | .ty n, u => u = Value.type n
abbrev Vals : List V → List Value → Prop := Paired RelV
theorem Vals.length {xs : List V} {us : List Value} (r : Vals xs us) : xs.length = us.length := Paired.length r
theorem Vals.get : ∀ {xs : List V} {us : List Value} {i : Nat} {x : V}, Vals xs us → xs[i]? = some x → ∃ u, us[i]? = some u ∧ RelV x u
  | _, _, _, _, .nil, e => by simp at e
  | _, _, 0, _, .cons r _, e => by simp at e; subst e; exact ⟨_, rfl, r⟩
  | _, _, i + 1, x, .cons _ t, e => by
    obtain ⟨u, h1, h2⟩ := Vals.get (i := i) (x := x) t (by simpa using e)
    exact ⟨u, by simpa using h1, h2⟩
theorem Vals.set {x : V} {u : Value} (r : RelV x u) : ∀ {xs : List V} {us : List Value} (i : Nat), Vals xs us → Vals (xs.set i x) (us.set i u)
  | _, _, _, .nil => .nil
  | _, _, 0, .cons _ t => .cons r t
  | _, _, i + 1, .cons q t => .cons q (Vals.set r i t)
theorem Vals.append : ∀ {xs ys : List V} {us ws : List Value}, Vals xs us → Vals ys ws → Vals (xs ++ ys) (us ++ ws)
  | _, _, _, _, .nil, s => s
  | _, _, _, _, .cons r t, s => .cons r (Vals.append t s)
theorem Vals.take : ∀ {xs : List V} {us : List Value} (n : Nat), Vals xs us → Vals (xs.take n) (us.take n)
  | _, _, 0, _ => .nil
  | _, _, _ + 1, .nil => .nil
  | _, _, n + 1, .cons r t => .cons r (Vals.take n t)
theorem Vals.drop : ∀ {xs : List V} {us : List Value} (n : Nat), Vals xs us → Vals (xs.drop n) (us.drop n)
  | _, _, 0, r => r
  | _, _, _ + 1, .nil => .nil
  | _, _, n + 1, .cons _ t => Vals.drop n t
theorem Vals.none_of : ∀ {xs : List V} {us : List Value} {i : Nat}, Vals xs us → xs[i]? = none → us[i]? = none := fun {xs us i} r e => by
  have h1 := r.length
  have h2 : xs.length ≤ i := List.getElem?_eq_none_iff.mp e
  exact List.getElem?_eq_none_iff.mpr (by omega)
def RelO : Option V → Option Value → Prop
  | some v, some u => RelV v u
  | none, none => True
  | _, _ => False
def KV {κ : Type} : List (κ × V) → List (κ × Value) → Prop := Paired fun (p : κ × V) (q : κ × Value) => p.1 = q.1 ∧ RelV p.2 q.2
def kV : Key → V
  | .inl i => .int i
  | .inr x => .str x
inductive HO where
  | lst (xs : List V)
  | tup (xs : List V)
  | dK (kvs : List (Key × V)) | dT (kvs : List (List Key × V))
  | set (S : Int → Bool) (n : Nat)
  | ins (C dx : Addr) (fs : List (Str × V))
  | own (x : Addr)
  | xd (fs : List (Str × V))
  | met (f x : Addr)
  | rng (lo hi : Int)
  | frz (o : Obj) (u : HO)
  | tbl (ps : Array Value)
  | ext (φ : Heap → Prop)
abbrev Hp := Addr → Option HO
def upd (H : Hp) (a : Addr) (o : HO) : Hp := fun b => if b = a then some o else H b
theorem upd_same {H : Hp} {a : Addr} {o : HO} : upd H a o a = some o := by unfold upd; rw [if_pos rfl]
theorem upd_ne {H : Hp} {a b : Addr} {o : HO} (h : b ≠ a) : upd H a o b = H b := by unfold upd; rw [if_neg h]
theorem upd_upd {H : Hp} {a : Addr} {o u : HO} : upd (upd H a o) a u = upd H a u := by
  funext b; unfold upd; split <;> rfl
theorem ne_of {H : Hp} {a b : Addr} {o u : HO} (h : H a = some o) (h' : H b = some u) (d : o ≠ u) : a ≠ b := by
  intro e; subst e; rw [h] at h'; exact d (Option.some.inj h')
theorem ne_of_none {H : Hp} {a b : Addr} {o : HO} (h : H a = some o) (h' : H b = none) : a ≠ b := by
  intro e; subst e; rw [h] at h'; cases h'
section
variable (P : Program) (w : World)
def ObjOk (H : Hp) (h : Heap) (a : Addr) : HO → Prop
  | .lst xs => xs.length ≤ sizeLine ∧ ∃ (its : List Value) (n : Nat), Vals xs its ∧ h.get? a = some { cls := .type "list", data := .seq its.toArray n }
  | .tup xs => xs.length ≤ sizeLine ∧ ∃ its : List Value, Vals xs its ∧ IsTup h a its.toArray
  | .dK kvs => kvs.length ≤ sizeLine ∧ (a == sysModules) = false ∧ ∃ vs, KV kvs vs ∧ h.DictOf (mixKind P w) a vs
  | .dT kvs => kvs.length ≤ sizeLine ∧ (a == sysModules) = false ∧ ∃ xs : List (List Key × Addr × Value),
      Paired (fun (p : List Key × V) (q : List Key × Addr × Value) => p.1 = q.1 ∧ H q.2.1 = some (.tup (p.1.map kV)) ∧ RelV p.2 q.2.2) kvs xs ∧
      ∃ o es ep, h.get? a = some o ∧ o.ExactDict ∧ o.data = .dict es ep ∧ es.toList = xs.map (entryOfKey (tupleKind (mixKind P w))) ∧ (xs.map (·.1)).Nodup
  | .set S n => h.SetOf (intKind P w) a S n
  | .ins C dx fs => H dx = some (.own a) ∧ fs.length ≤ 1000 ∧ dx ≠ a ∧ h.get? a = some (PySem.W.instObj C dx) ∧
      ∃ mA, h.Ns1 dx mA ∧ (∀ f, RelO (fs.lookup f) (mA f)) ∧ PySem.Within mA (fs.map (·.1))
  | .own _ => ∃ o, h.get? a = some o
  | .xd fs => ∃ mA, h.Ns1 a mA ∧ ∀ f, RelO (fs.lookup f) (mA f)
  | .rng lo hi => ∃ t u v, h.get? a = some { cls := .type "range", data := .fields #[.int lo t, .int hi u, .int 1 v] }
  | .frz o u => h.get? a = some o ∧ ObjOk H h a u
  | .tbl ps => h.get? a = some { cls := .none, data := .fields ps }
  | .met f x => h.get? a = some (PySem.W.methodObj (.ref f) (.ref x))
  | .ext φ => φ h ∧ (∃ o, h.get? a = some o) ∧ ∀ h1 h2 : Heap, φ h1 → (∀ o, h1.get? a = some o → h2.get? a = some o) → φ h2
def HOk (H : Hp) (h : Heap) : Prop := ∀ a o, H a = some o → ObjOk P w H h a o
end
section
variable {P : Program} {w : World} {H H' : Hp} {h h' : Heap} {a : Addr} {o : HO}
theorem ObjOk.lt (x : ObjOk P w H h a o) : a < h.objs.size := by
  cases o with
  | lst xs => obtain ⟨_, _, _, _, e⟩ := x; exact Heap.lt_size e
  | tup xs => obtain ⟨_, _, _, p⟩ := x; exact p.lt
  | dK kvs => obtain ⟨_, _, _, _, o, _, _, e, _⟩ := x; exact Heap.lt_size e
  | dT kvs => obtain ⟨_, _, _, _, o, _, _, e, _⟩ := x; exact Heap.lt_size e
  | set S n => obtain ⟨o, _, _, _, e, _⟩ := x; exact Heap.lt_size e
  | ins C dx fs => obtain ⟨_, _, _, e, _⟩ := x; exact Heap.lt_size e
  | own y => obtain ⟨_, e⟩ := x; exact Heap.lt_size e
  | xd fs => obtain ⟨_, ⟨_, _, _, e, _⟩, _⟩ := x; exact Heap.lt_size e
  | rng lo hi => obtain ⟨_, _, _, e⟩ := x; exact Heap.lt_size e
  | frz ob u => obtain ⟨e, _⟩ := x; exact Heap.lt_size e
  | tbl ps => exact Heap.lt_size (show h.get? a = some _ from x)
  | met f y => exact Heap.lt_size (show h.get? a = some _ from x)
  | ext φ => obtain ⟨_, ⟨_, e⟩, _⟩ := x; exact Heap.lt_size e
theorem Paired.mapP {α β : Type} {F G : α → β → Prop} : ∀ {l₁ : List α} {l₂ : List β}, Paired F l₁ l₂ → (∀ a b, F a b → G a b) → Paired G l₁ l₂
  | _, _, .nil, _ => .nil
  | _, _, .cons r t, f => .cons (f _ _ r) (Paired.mapP t f)
theorem Paired.imp' {α β : Type} {F G : α → β → Prop} (f : ∀ a b, F a b → G a b) {l₁ : List α} {l₂ : List β} (r : Paired F l₁ l₂) : Paired G l₁ l₂ := Paired.mapP r f
theorem ObjOk.stay (x : ObjOk P w H h a o) (k : ∀ b u, (b = a ∨ H b = some (.own a)) → h.get? b = some u → h'.get? b = some u)
    (ho : ∀ b, H b = some (.own a) → H' b = some (.own a)) (ht : ∀ b xs, H b = some (.tup xs) → H' b = some (.tup xs)) : ObjOk P w H' h' a o := by
  induction o with
  | lst xs => obtain ⟨z, its, n, r, e⟩ := x; exact ⟨z, its, n, r, k _ _ (.inl rfl) e⟩
  | tup xs => obtain ⟨z, its, r, ob, e, c⟩ := x; exact ⟨z, its, r, ob, k _ _ (.inl rfl) e, c⟩
  | dK kvs => obtain ⟨z, y, vs, r, ob, es, ep, e, c⟩ := x; exact ⟨z, y, vs, r, ob, es, ep, k _ _ (.inl rfl) e, c⟩
  | dT kvs =>
    obtain ⟨z, y, xs, r, ob, es, ep, e, c⟩ := x
    exact ⟨z, y, xs, Paired.mapP r fun p q z => ⟨z.1, ht _ _ z.2.1, z.2.2⟩, ob, es, ep, k _ _ (.inl rfl) e, c⟩
  | set S n => obtain ⟨ob, es, ep, t, e, c⟩ := x; exact ⟨ob, es, ep, t, k _ _ (.inl rfl) e, c⟩
  | ins C dx fs =>
    obtain ⟨d, z, ne, e, mA, ⟨od, es, ep, e2, c⟩, r⟩ := x
    exact ⟨ho _ d, z, ne, k _ _ (.inl rfl) e, mA, ⟨od, es, ep, k _ _ (.inr d) e2, c⟩, r⟩
  | own y => obtain ⟨ob, e⟩ := x; exact ⟨ob, k _ _ (.inl rfl) e⟩
  | xd fs => obtain ⟨mA, ⟨od, es, ep, e, c⟩, r⟩ := x; exact ⟨mA, ⟨od, es, ep, k _ _ (.inl rfl) e, c⟩, r⟩
  | rng lo hi => obtain ⟨t, u, v, e⟩ := x; exact ⟨t, u, v, k _ _ (.inl rfl) e⟩
  | frz ob u ih => obtain ⟨e, q⟩ := x; exact ⟨k _ _ (.inl rfl) e, ih q⟩
  | tbl ps =>
    have e : h.get? a = some { cls := .none, data := .fields ps } := x
    show h'.get? a = some { cls := .none, data := .fields ps }
    exact k a _ (.inl rfl) e
  | met f y =>
    have e : h.get? a = some (PySem.W.methodObj (.ref f) (.ref y)) := x
    show h'.get? a = some (PySem.W.methodObj (.ref f) (.ref y))
    exact k a _ (.inl rfl) e
  | ext φ => obtain ⟨p, ⟨o, e⟩, st⟩ := x; exact ⟨st _ _ p fun o q => k _ _ (.inl rfl) q, ⟨o, k _ _ (.inl rfl) e⟩, st⟩
theorem HOk.lt (x : HOk P w H h) (e : H a = some o) : a < h.objs.size := (x a o e).lt
theorem HOk.fresh (x : HOk P w H h) (e : h.objs.size ≤ a) : H a = none := by
  cases q : H a with
  | none => rfl
  | some u => exact absurd (Nat.lt_of_lt_of_le (x.lt q) e) (Nat.lt_irrefl _)
theorem HOk.kept (x : HOk P w H h) (k : ∀ b u, h.get? b = some u → h'.get? b = some u) : HOk P w H h' := fun a o e =>
  (x a o e).stay (fun b u _ q => k b u q) (fun _ q => q) fun _ _ q => q
theorem HOk.laid (x : HOk P w H h) (k : ∀ b u, h.get? b = some u → h'.get? b = some u) (hp : h.objs.size ≤ a) (new : ObjOk P w (upd H a o) h' a o) : HOk P w (upd H a o) h' := fun b u e => by
  have hn := x.fresh hp
  by_cases hb : b = a
  · subst hb; rw [upd_same] at e; cases e; exact new
  · rw [upd_ne hb] at e
    exact (x b u e).stay (fun c v _ q => k c v q) (fun c q => by rw [upd_ne (ne_of_none q hn)]; exact q) fun c xs q => by rw [upd_ne (ne_of_none q hn)]; exact q
end
def Rd (H : Hp) (a : Addr) (u : HO) : Prop := H a = some u ∨ ∃ o, H a = some (.frz o u)
theorem Rd.of {H : Hp} {a : Addr} {u : HO} (h : H a = some u) : Rd H a u := .inl h
theorem Rd.ok {P : Program} {w : World} {H : Hp} {h : Heap} {a : Addr} {u : HO} (r : Rd H a u) (x : HOk P w H h) : ObjOk P w H h a u := by
  rcases r with r | ⟨o, r⟩
  · exact x a u r
  · obtain ⟨_, q⟩ := x a _ r
    exact q
def Mut : Option HO → Prop
  | some (.lst _) => True
  | some (.dK _) => True
  | some (.dT _) => True
  | some (.set _ _) => True
  | some (.ins _ _ _) => True
  | some (.ext _) => True
  | _ => False
section
variable {P : Program} {w : World} {H : Hp} {h h' : Heap} {x e : Addr} {o' : HO}
theorem HOk.write (ok : HOk P w H h) (mu : Mut (H x)) (he : e = x ∨ H e = some (.own x)) (k : ∀ b u, b ≠ e → h.get? b = some u → h'.get? b = some u) (heo : ∃ u, h'.get? e = some u)
    (new : ObjOk P w (upd H x o') h' x o') : HOk P w (upd H x o') h' := fun b u q => by
  have nown : ∀ c y, H c = some (.own y) → c ≠ x := fun c y r z => by subst z; rw [r] at mu; exact mu
  have ntup : ∀ c xs, H c = some (.tup xs) → c ≠ x := fun c xs r z => by subst z; rw [r] at mu; exact mu
  by_cases hb : b = x
  · subst hb; rw [upd_same] at q; cases q; exact new
  · rw [upd_ne hb] at q
    by_cases hbe : b = e
    · have q' : H b = some (.own x) := by
        rcases he with z | z
        · exact absurd (hbe.trans z) hb
        · rw [hbe]; exact z
      rw [q] at q'; cases q'
      obtain ⟨v, hv⟩ := heo
      exact ⟨v, by rw [hbe]; exact hv⟩
    · refine (ok b u q).stay (fun c v hc r => k c v ?_ r) (fun c r => by rw [upd_ne (nown c b r)]; exact r) fun c xs r => by rw [upd_ne (ntup c xs r)]; exact r
      rcases hc with rfl | hc
      · exact hbe
      · rintro rfl
        rcases he with z | z
        · exact nown c b hc z
        · rw [hc] at z; cases z; exact hb rfl
end
structure Un (fs ex : List Addr) (H H' : Hp) (h h' : Heap) : Prop where
  keep : ∀ b o, h.get? b = some o → H b = none → b ∉ fs → b ∉ ex → h'.get? b = some o
  slot : ∀ b o, h.get? b = some o → H b = none → b ∈ fs → b ∉ ex → ∃ sl, h'.get? b = some { o with slots := sl }
  free : ∀ b o, h.get? b = some o → H b = none → b ∉ ex → H' b = none
  there : ∀ b o, h.get? b = some o → b ∉ ex → ∃ o', h'.get? b = some o'
  tups : ∀ b xs, H b = some (.tup xs) → H' b = some (.tup xs)
  frzs : ∀ b o u, H b = some (.frz o u) → H' b = some (.frz o u)
  tbls : ∀ b ps, H b = some (.tbl ps) → ∃ more, H' b = some (.tbl (ps ++ more))
section
variable {fs fs' ex ex' : List Addr} {H H1 H2 : Hp} {h h1 h2 h' : Heap} {a x e : Addr} {o : HO}
theorem Un.any (u : Un fs ex H H1 h h1) {b : Addr} {ob : Obj} (q : h.get? b = some ob) (n : H b = none) (hx : b ∉ ex) : ∃ sl, h1.get? b = some { ob with slots := sl } := by
  by_cases hb : b ∈ fs
  · exact u.slot b ob q n hb hx
  · exact ⟨ob.slots, u.keep b ob q n hb hx⟩
theorem Un.trans (a : Un fs ex H H1 h h1) (b : Un fs ex H1 H2 h1 h2) : Un fs ex H H2 h h2 where
  keep := fun c ob q n hc hx => b.keep c ob (a.keep c ob q n hc hx) (a.free c ob q n hx) hc hx
  slot := fun c ob q n hc hx => by
    obtain ⟨sl, e1⟩ := a.slot c ob q n hc hx
    obtain ⟨sl', e2⟩ := b.slot c _ e1 (a.free c ob q n hx) hc hx
    exact ⟨sl', e2⟩
  free := fun c ob q n hx => by
    obtain ⟨o', e1⟩ := a.there c ob q hx
    exact b.free c o' e1 (a.free c ob q n hx) hx
  there := fun c ob q hx => by
    obtain ⟨o', e1⟩ := a.there c ob q hx
    exact b.there c o' e1 hx
  tups := fun c xs q => b.tups c xs (a.tups c xs q)
  frzs := fun c ob xs q => b.frzs c ob xs (a.frzs c ob xs q)
  tbls := fun c ps q => by
    obtain ⟨m1, e1⟩ := a.tbls c ps q
    obtain ⟨m2, e2⟩ := b.tbls c _ e1
    exact ⟨m1 ++ m2, by rw [e2, Array.append_assoc]⟩
theorem Un.kept (k : ∀ b u, h.get? b = some u → h'.get? b = some u) : Un fs ex H H h h' :=
  ⟨fun b ob q _ _ _ => k b ob q, fun b ob q _ _ _ => ⟨ob.slots, k b ob q⟩, fun _ _ _ n _ => n, fun b ob q _ => ⟨ob, k b ob q⟩, fun _ _ q => q, fun _ _ _ q => q, fun _ ps q => ⟨#[], by rw [q]; simp⟩⟩
theorem Un.refl : Un fs ex H H h h := Un.kept fun _ _ q => q
theorem Un.laid (k : ∀ b u, h.get? b = some u → h'.get? b = some u) (hp : h.objs.size ≤ a) (hn : H a = none) : Un fs ex H (upd H a o) h h' where
  keep := fun b u q _ _ _ => k b u q
  slot := fun b u q _ _ _ => ⟨u.slots, k b u q⟩
  free := fun b u q n _ => by rw [upd_ne (Nat.ne_of_lt (Nat.lt_of_lt_of_le (Heap.lt_size q) hp))]; exact n
  there := fun b u q _ => ⟨u, k b u q⟩
  tups := fun b xs q => by rw [upd_ne (ne_of_none q hn)]; exact q
  frzs := fun b u xs q => by rw [upd_ne (ne_of_none q hn)]; exact q
  tbls := fun b ps q => ⟨#[], by rw [upd_ne (ne_of_none q hn), q]; simp⟩
theorem Un.write (mu : Mut (H x)) (he : e = x ∨ H e = some (.own x)) (k : ∀ b u, b ≠ e → h.get? b = some u → h'.get? b = some u) (heo : ∃ u, h'.get? e = some u) : Un fs ex H (upd H x o) h h' := by
  have hx : ∀ b, H b = none → b ≠ x := fun b n z => by subst z; rw [n] at mu; exact mu
  have hb : ∀ b, H b = none → b ≠ e := fun b n z => by
    subst z
    rcases he with r | r
    · exact hx b n r
    · rw [n] at r; cases r
  have hm : ∀ b u, H b = some u → ¬ Mut (some u) → b ≠ x := fun b u q nm z => by subst z; rw [q] at mu; exact nm mu
  refine ⟨fun b u q n _ _ => k b u (hb b n) q, fun b u q n _ _ => ⟨u.slots, k b u (hb b n) q⟩, fun b u q n _ => by rw [upd_ne (hx b n)]; exact n, fun b u q _ => ?_,
    fun b xs q => by rw [upd_ne (hm b _ q fun z => z)]; exact q, fun b u xs q => by rw [upd_ne (hm b _ q fun z => z)]; exact q, fun b ps q => ⟨#[], by rw [upd_ne (hm b _ q fun z => z), q]; simp⟩⟩
  by_cases hbe : b = e
  · subst hbe; exact heo
  · exact ⟨u, k b u hbe q⟩
theorem Un.mono (u : Un fs ex H H1 h h1) (hs : ∀ b ∈ fs, b ∈ fs') (hx : ∀ b ∈ ex, b ∈ ex') : Un fs' ex' H H1 h h1 :=
  ⟨fun b ob q n hb he => u.keep b ob q n (fun z => hb (hs b z)) fun z => he (hx b z), fun _ _ q n _ he => u.any q n fun z => he (hx _ z), fun b ob q n he => u.free b ob q n fun z => he (hx b z), fun b ob q he => u.there b ob q fun z => he (hx b z), u.tups, u.frzs, u.tbls⟩
end
def trk (h : Heap) (H : Hp) : List Addr := (List.range h.objs.size).filter fun a => (H a).isSome
def hidT (h : Heap) (H : Hp) : Heap := PySem.W.hideAll h (trk h H)
theorem hidT_size (h : Heap) (H : Hp) : (hidT h H).objs.size = h.objs.size := PySem.W.hideAll_size _ _
theorem hidT_get {h : Heap} {H : Hp} {b : Addr} {o : Obj} (e : h.get? b = some o) (n : H b = none) : (hidT h H).get? b = some o :=
  PySem.W.hideAll_get _ e fun hm => by
    have q : (H b).isSome = true := (List.mem_filter.mp hm).2
    rw [n] at q; simp at q
theorem of_hidT {h : Heap} {H : Hp} {b : Addr} {o : Obj} (e : (hidT h H).get? b = some o) : h.get? b = some o ∧ H b = none := by
  have e' : h.get? b = some o := PySem.W.of_hideAll (trk h H) e
  refine ⟨e', ?_⟩
  cases q : H b with
  | none => rfl
  | some x =>
    have hm : b ∈ trk h H := List.mem_filter.mpr ⟨List.mem_range.mpr (Heap.lt_size e'), by simp [q]⟩
    have z : (hidT h H).get? b = none := PySem.W.hideAll_none (trk h H) hm
    rw [z] at e; cases e
def allNews (g h : Heap) (L : Addr) : List (Addr × Obj) := (List.range h.objs.size).filterMap fun a => if a = L ∨ (g.get? a).isSome = true then none else (h.get? a).map fun o => (a, o)
theorem mem_allNews {g h : Heap} {L a : Addr} {o : Obj} (h1 : a ≠ L) (h2 : g.get? a = none) (h3 : h.get? a = some o) : (a, o) ∈ allNews g h L :=
  List.mem_filterMap.mpr ⟨a, List.mem_range.mpr (Heap.lt_size h3), by simp [h1, h2, h3]⟩
theorem of_mem_allNews {g h : Heap} {L : Addr} {p : Addr × Obj} (hp : p ∈ allNews g h L) : p.1 ≠ L ∧ g.get? p.1 = none ∧ h.get? p.1 = some p.2 := by
  obtain ⟨b, _, e⟩ := List.mem_filterMap.mp hp
  split at e
  · cases e
  · rename_i hn
    cases q : h.get? b with
    | none => rw [q] at e; simp at e
    | some u =>
      rw [q] at e
      simp only [Option.map_some, Option.some.injEq] at e
      subst e
      refine ⟨fun z => hn (.inl z), ?_, q⟩
      show g.get? b = none
      cases r : g.get? b with
      | none => rfl
      | some v => exact (hn (.inr (by simp [r]))).elim
def rest (g h : Heap) (L d : Addr) : List (Addr × Obj) := (allNews g h L).filter fun p => decide (p.1 ≠ d)
theorem rest_ne {g h : Heap} {L d : Addr} : ∀ p ∈ rest g h L d, p.1 ≠ d := fun p hp => of_decide_eq_true (List.mem_filter.mp hp).2
theorem mem_rest {g h : Heap} {L d a : Addr} {o : Obj} (h1 : a ≠ L) (h2 : g.get? a = none) (h3 : h.get? a = some o) (h4 : a ≠ d) : (a, o) ∈ rest g h L d :=
  List.mem_filter.mpr ⟨mem_allNews h1 h2 h3, decide_eq_true h4⟩
theorem news_all {g h : Heap} {L : Addr} : News g L h (allNews g h L) := fun p hp => let ⟨a, b, c⟩ := of_mem_allNews hp; ⟨c, a, b⟩
theorem news_at {g h : Heap} {L d : Addr} {o : Obj} (h1 : d ≠ L) (h2 : g.get? d = none) (h3 : h.get? d = some o) : News g L h ((d, o) :: rest g h L d) := fun p hp => by
  rcases List.mem_cons.mp hp with rfl | hp
  · exact ⟨h3, h1, h2⟩
  · exact news_all p (List.mem_filter.mp hp).1
theorem kept_of_news {g h h' : Heap} {L d : Addr} {m : Str → Option Value} (k : ∀ b o, g.get? b = some o → h.get? b = some o) (F : Fr g L h' m) (N : News g L h' (rest g h L d)) :
    ∀ b o, b ≠ L → b ≠ d → h.get? b = some o → h'.get? b = some o := fun b o h1 h2 e => by
  cases q : g.get? b with
  | some u =>
    have := k b u q
    rw [e] at this; cases this
    exact F.keep b _ q
  | none => exact (N (b, o) (mem_rest h1 q e h2)).1
end L2
namespace L2
open PySem PySem.Spec PyProof.Rows
structure Mod (K : PySem.W.Frag) (mg : Str → Option Value) (base : Heap) : Prop where
  kin : K.In base
  glob : base.Ns mainGlobals mg
  blt : ∃ mb, base.Ns builtinsNs mb ∧ ∀ x : Str, x ≠ "__name__" → mb x = bootBuiltins x
  nolimit : base.NoLimit
/-- the context: a def's body (or a comprehension's block) running. base: fixed through the whole law; s₀, H₀: the entry; outer: the frames whose slots others may change (a def's callers); stack: all frames that run;
   ex: iterators that were made ahead of the entry and are walked here (a comprehension's); fn: the names whose cells were made at the entry (a def: all; a comprehension's block: its own); calm: not within an except suite; pn: pins that every state bears; xe: what is wanted of an exception that leaves the code -/
structure Cx where
  prog : Program
  w : World
  K : PySem.W.Frag
  mg : Str → Option Value
  base : Heap
  A : Around
  N : List Str
  s₀ : Shared
  H₀ : Hp
  env : Env
  outer : List Env
  stack : List Env
  ex : List Addr
  fn : Str → Bool
  calm : Bool
  pn : List (Addr × Obj)
  xe : Value → Shared → Prop
def frs (l : List Env) : List Addr := l.filterMap (·.frame)
abbrev Cx.fs (X : Cx) : List Addr := frs X.outer
def Vis (sc : Scope) (x : Str) : Prop := sc.names.lookup x = some .local ∨ sc.names.lookup x = some .cell ∨ sc.names.lookup x = some .free
def Loc (sc : Scope) (x : Str) : Prop := sc.names.lookup x = some .local ∨ sc.names.lookup x = some .cell
def Look (env : Env) (h : Heap) (m : Str → Option Value) (x : Str) (u : Value) : Prop :=
  (env.kindOf x = some .local ∧ m x = some u) ∨ ((env.kindOf x = some .cell ∨ env.kindOf x = some .free) ∧ ∃ c, env.cells.lookup x = some c ∧ h.IsCell c (some u))
structure Cx.Ok (X : Cx) : Prop where
  mod : Mod X.K X.mg X.base
  kind : X.env.scope.kind = .function
  glob : X.env.globals = mainGlobals
  blt : X.env.builtins = builtinsNs
  above : X.s₀.heap.objs.size ≤ X.env.locals
  inj : ∀ x y c, X.env.cells.lookup x = some c → X.env.cells.lookup y = some c → x = y
  has : ∀ x, (X.env.kindOf x = some .cell ∨ X.env.kindOf x = some .free) → ∃ c, X.env.cells.lookup x = some c
  cab : ∀ x c, X.fn x = true → X.env.cells.lookup x = some c → X.s₀.heap.objs.size ≤ c
  hd : X.calm = true → X.A.handled = none
  frames : X.A.frames = some X.stack
  stk : X.stack = X.outer ∨ (X.stack = X.env :: X.outer ∧ X.env.frame = some X.env.locals)
  exf : ∀ b ∈ X.ex, b ≠ X.env.locals ∧ ∀ x c, X.env.cells.lookup x = some c → c ≠ b
  bs : ∀ b o, X.base.get? b = some o → X.s₀.heap.get? b = some o ∧ X.H₀ b = none
  bsz : X.base.objs.size ≤ X.s₀.heap.objs.size
  noex : ∀ b o, X.base.get? b = some o → b ∉ X.ex
  exfs : ∀ b ∈ X.ex, b ∉ X.fs
  funs : X.s₀.heap.FunFrames X.base X.outer
  frf : ∀ b ∈ X.fs, X.H₀ b = none
structure Inv (X : Cx) (pins : List (Addr × Obj)) (σ : List (Option V)) (H : Hp) (s : Shared) : Prop where
  ok : X.Ok
  os : s.os = X.s₀.os
  bare : AllBare s.gens
  base : Un X.fs X.ex X.H₀ H X.s₀.heap s.heap
  loc : ∃ m, s.heap.Ns X.env.locals m ∧ ∀ (i : Nat) (x : Str) (v : V), X.N[i]? = some x → σ[i]? = some (some v) → Vis X.env.scope x → ∃ u, RelV v u ∧ Look X.env s.heap m x u
  cell : ∀ x c, X.env.cells.lookup x = some c → ∃ v, s.heap.IsCell c v
  free : H X.env.locals = none
  freeC : ∀ x c, X.env.cells.lookup x = some c → H c = none
  pin : ∀ p ∈ X.pn ++ pins, s.heap.get? p.1 = some p.2 ∧ H p.1 = none ∧ p.1 ≠ X.env.locals ∧ p.1 ∉ X.fs ∧ ∀ v, p.2.data ≠ .cell v
  hok : HOk X.prog X.w H s.heap
  len : σ.length = X.N.length
section
variable {X : Cx} {pins : List (Addr × Obj)} {σ : List (Option V)} {H H' : Hp} {s : Shared} {h' : Heap}
theorem Cx.Ok.nofr (ok : X.Ok) {b : Addr} {o : Obj} (e : X.base.get? b = some o) : b ∉ X.fs := fun hb => by
  have := (ok.funs.mem hb).1
  rw [e] at this; cases this
theorem Inv.bs (I : Inv X pins σ H s) : ∀ b o, X.base.get? b = some o → s.heap.get? b = some o ∧ H b = none := fun b o e =>
  ⟨I.base.keep b o (I.ok.bs b o e).1 (I.ok.bs b o e).2 (I.ok.nofr e) (I.ok.noex b o e), I.base.free b o (I.ok.bs b o e).1 (I.ok.bs b o e).2 (I.ok.noex b o e)⟩
theorem Inv.bk (I : Inv X pins σ H s) : ∀ b o, X.base.get? b = some o → s.heap.get? b = some o := fun b o e => (I.bs b o e).1
theorem Inv.mod (I : Inv X pins σ H s) : Mod X.K X.mg X.base := I.ok.mod
theorem Inv.kIn (I : Inv X pins σ H s) : X.K.In s.heap := I.ok.mod.kin.keeps I.bk
theorem Inv.nolimit (I : Inv X pins σ H s) : s.heap.NoLimit := I.ok.mod.nolimit.keeps I.bk
theorem Inv.fr (I : Inv X pins σ H s) : ∃ m, Fr X.base X.env.locals s.heap m :=
  let ⟨m, hn, _⟩ := I.loc
  ⟨m, hn, I.bk, Nat.le_trans I.ok.bsz I.ok.above⟩
theorem Inv.lt (I : Inv X pins σ H s) : X.env.locals < s.heap.objs.size := let ⟨_, hn, _⟩ := I.loc; hn.lt
theorem Inv.sz (I : Inv X pins σ H s) : X.s₀.heap.objs.size ≤ s.heap.objs.size := Nat.le_trans I.ok.above (Nat.le_of_lt I.lt)
theorem Inv.nofs (I : Inv X pins σ H s) {a : Addr} (h : s.heap.objs.size ≤ a) : a ∉ X.fs := fun hb => by
  obtain ⟨_, o, ho, _⟩ := I.ok.funs.mem hb
  exact absurd (Nat.lt_of_lt_of_le (Heap.lt_size ho) (Nat.le_trans I.sz h)) (Nat.lt_irrefl _)
theorem Inv.cne (I : Inv X pins σ H s) : ∀ x c, X.env.cells.lookup x = some c → c ≠ X.env.locals := fun x c e z => by
  obtain ⟨v, o, ho, hd⟩ := I.cell x c e
  obtain ⟨m, ⟨o', es, ep, ho', hd', _⟩, _⟩ := I.loc
  rw [z, ho'] at ho; cases ho; rw [hd'] at hd; cases hd
theorem Inv.funs (I : Inv X pins σ H s) : s.heap.FunFrames X.base X.outer := by
  have all : ∀ (l : List Env), (∀ b ∈ frs l, b ∈ X.fs) → X.s₀.heap.FunFrames X.base l → s.heap.FunFrames X.base l := by
    intro l
    induction l with
    | nil => intro _ _; trivial
    | cons env r ih =>
      intro hs hl
      obtain ⟨hk, ⟨L, o, hf, hn, ho, hd⟩, hr⟩ := hl
      have hL : L ∈ X.fs := hs L (by unfold frs; rw [List.filterMap_cons, hf]; exact List.mem_cons_self)
      obtain ⟨sl, e⟩ := I.base.slot L o ho (I.ok.frf L hL) hL fun z => I.ok.exfs L z hL
      exact ⟨hk, ⟨L, _, hf, hn, e, hd⟩, ih (fun b hb => hs b (by unfold frs; rw [List.filterMap_cons, hf]; exact List.mem_cons_of_mem _ hb)) hr⟩
  exact all X.outer (fun _ hb => hb) I.ok.funs
theorem Inv.stack (I : Inv X pins σ H s) : s.heap.FunFrames X.base X.stack := by
  rcases I.ok.stk with e | ⟨e, hf⟩
  · rw [e]; exact I.funs
  · rw [e]
    obtain ⟨m, hn, _⟩ := I.loc
    refine .cons (by rw [I.ok.kind]; decide) hf hn ?_ I.funs
    exact Heap.get?_none_of_le (Nat.le_trans I.ok.bsz I.ok.above)
theorem Inv.stkSub (I : Inv X pins σ H s) : ∀ b ∈ frs X.stack, b ∈ X.env.locals :: X.fs := fun b hb => by
  rcases I.ok.stk with e | ⟨e, hf⟩
  · rw [e] at hb; exact List.mem_cons_of_mem _ hb
  · rw [e] at hb
    unfold frs at hb
    rw [List.filterMap_cons, hf] at hb
    exact hb
theorem Inv.stkFree (I : Inv X pins σ H s) : ∀ b ∈ frs X.stack, H b = none := fun b hb => by
  rcases List.mem_cons.mp (I.stkSub b hb) with e | hb
  · rw [e]; exact I.free
  · obtain ⟨_, o, ho, _⟩ := I.ok.funs.mem hb
    exact I.base.free b o ho (I.ok.frf b hb) fun z => I.ok.exfs b z hb
theorem Inv.step {g' : Array GenState} {t' : Nat} {d' : Drawn} {ch : List Addr} (I : Inv X pins σ H s)
    (hch : ∀ b ∈ ch, (b ∈ X.ex ∨ X.s₀.heap.objs.size ≤ b) ∧ b ≠ X.env.locals ∧ (∀ x c, X.env.cells.lookup x = some c → c ≠ b) ∧ ∀ p ∈ X.pn ++ pins, p.1 ≠ b)
    (keep : ∀ b o, b ≠ X.env.locals → b ∉ X.fs → b ∉ ch → s.heap.get? b = some o → H b = none → h'.get? b = some o)
    (slot : ∀ b o, b ≠ X.env.locals → b ∈ X.fs → b ∉ ch → s.heap.get? b = some o → H b = none → ∃ sl, h'.get? b = some { o with slots := sl }) (free : ∀ b o, b ∉ ch → s.heap.get? b = some o → H b = none → H' b = none)
    (there : ∀ b o, b ∉ ch → s.heap.get? b = some o → ∃ o', h'.get? b = some o')
    (tups : ∀ b xs, H b = some (.tup xs) → H' b = some (.tup xs)) (frzs : ∀ b o u, H b = some (.frz o u) → H' b = some (.frz o u)) (tbls : ∀ b ps, H b = some (.tbl ps) → ∃ more, H' b = some (.tbl (ps ++ more)))
    (ns : ∀ m, s.heap.Ns X.env.locals m → h'.Ns X.env.locals m) (hok : HOk X.prog X.w H' h') (hg : AllBare g') :
    Inv X pins σ H' { s with heap := h', gens := g', drawn := d', toks := t' } := by
  have neL : ∀ b o, X.s₀.heap.get? b = some o → b ≠ X.env.locals := fun b o e => Nat.ne_of_lt (Nat.lt_of_lt_of_le (Heap.lt_size e) I.ok.above)
  have neC : ∀ b o, X.s₀.heap.get? b = some o → b ∉ X.ex → b ∉ ch := fun b o e hx hb => by
    rcases (hch b hb).1 with z | z
    · exact hx z
    · exact absurd (Nat.lt_of_lt_of_le (Heap.lt_size e) z) (Nat.lt_irrefl _)
  have cellK : ∀ x c, X.env.cells.lookup x = some c → ∀ v, s.heap.IsCell c v → h'.IsCell c v := fun x c e v ⟨o, ho, hd⟩ => by
    have nch : c ∉ ch := fun z => (hch c z).2.2.1 x c e rfl
    by_cases hc : c ∈ X.fs
    · obtain ⟨sl, q⟩ := slot c o (I.cne x c e) hc nch ho (I.freeC x c e)
      exact ⟨_, q, hd⟩
    · exact ⟨o, keep c o (I.cne x c e) hc nch ho (I.freeC x c e), hd⟩
  refine ⟨I.ok, I.os, hg, ⟨fun b o e n hb hx => ?_, fun b o e n hb hx => ?_, fun b o e n hx => ?_, fun b o e hx => ?_, fun b xs e => tups b xs (I.base.tups b xs e), fun b o xs e => frzs b o xs (I.base.frzs b o xs e), fun b ps e => ?_⟩, ?_, fun x c e => ?_, ?_, fun x c e => ?_, fun p hp => ?_, hok, I.len⟩
  · exact keep b o (neL b o e) hb (neC b o e hx) (I.base.keep b o e n hb hx) (I.base.free b o e n hx)
  · obtain ⟨sl, e1⟩ := I.base.slot b o e n hb hx
    obtain ⟨sl', e2⟩ := slot b _ (neL b o e) hb (neC b o e hx) e1 (I.base.free b o e n hx)
    exact ⟨sl', e2⟩
  · obtain ⟨o', e1⟩ := I.base.there b o e hx
    exact free b o' (neC b o e hx) e1 (I.base.free b o e n hx)
  · obtain ⟨o', e1⟩ := I.base.there b o e hx
    exact there b o' (neC b o e hx) e1
  · obtain ⟨m1, e1⟩ := I.base.tbls b ps e
    obtain ⟨m2, e2⟩ := tbls b _ e1
    exact ⟨m1 ++ m2, by rw [e2, Array.append_assoc]⟩
  · obtain ⟨m, hn, hl⟩ := I.loc
    refine ⟨m, ns m hn, fun i x v e1 e2 e3 => ?_⟩
    obtain ⟨u, r, l⟩ := hl i x v e1 e2 e3
    refine ⟨u, r, ?_⟩
    rcases l with l | ⟨k, c, e, z⟩
    · exact .inl l
    · exact .inr ⟨k, c, e, cellK x c e _ z⟩
  · obtain ⟨v, z⟩ := I.cell x c e
    exact ⟨v, cellK x c e v z⟩
  · obtain ⟨m, ⟨o, _, _, ho, _⟩, _⟩ := I.loc
    exact free _ o (fun z => (hch _ z).2.1 rfl) ho I.free
  · obtain ⟨v, o, ho, hd⟩ := I.cell x c e
    exact free c o (fun z => (hch c z).2.2.1 x c e rfl) ho (I.freeC x c e)
  · obtain ⟨e, n, ne, nf, d⟩ := I.pin p hp
    have nch : p.1 ∉ ch := fun z => (hch p.1 z).2.2.2 p hp rfl
    exact ⟨keep p.1 p.2 ne nf nch e n, free p.1 p.2 nch e n, ne, nf, d⟩
theorem Inv.un {t' : Nat} (I : Inv X pins σ H s) (u : Un X.fs [] H H' s.heap h') (hok : HOk X.prog X.w H' h') : Inv X pins σ H' { s with heap := h', toks := t' } := by
  obtain ⟨m, ⟨o, es, ep, ho, r⟩, _⟩ := id I.loc
  obtain ⟨sl, hL⟩ := u.any ho I.free (by simp)
  exact I.step (g' := s.gens) (d' := s.drawn) (ch := []) (fun _ z => nomatch z) (fun b o _ hb _ e n => u.keep b o e n hb (by simp)) (fun b o _ hb _ e n => u.slot b o e n hb (by simp)) (fun b o _ e n => u.free b o e n (by simp)) (fun b o _ e => u.there b o e (by simp)) u.tups u.frzs u.tbls (fun m' hm => by
    obtain ⟨o', es', ep', ho', r'⟩ := hm
    rw [ho] at ho'; cases ho'
    exact ⟨_, es', ep', hL, r'⟩) hok I.bare
theorem Inv.call {g' : Array GenState} {t' : Nat} {d' : Drawn} {ch : List Addr} (I : Inv X pins σ H s) (u : Un (frs X.stack) ch H H' s.heap h') (hok : HOk X.prog X.w H' h') (hg : AllBare g')
    (hch : ∀ b ∈ ch, (b ∈ X.ex ∨ X.s₀.heap.objs.size ≤ b) ∧ b ≠ X.env.locals ∧ (∀ x c, X.env.cells.lookup x = some c → c ≠ b) ∧ ∀ p ∈ X.pn ++ pins, p.1 ≠ b) :
    Inv X pins σ H' { s with heap := h', gens := g', drawn := d', toks := t' } := by
  obtain ⟨m, ⟨o, es, ep, ho, r⟩, _⟩ := id I.loc
  obtain ⟨sl, hL⟩ := u.any ho I.free fun z => (hch _ z).2.1 rfl
  exact I.step (ch := ch) hch (fun b o hL hb hc e n => u.keep b o e n (fun z => (List.mem_cons.mp (I.stkSub b z)).elim hL hb) hc) (fun b o _ _ hc e n => u.any e n hc) (fun b o hc e n => u.free b o e n hc) (fun b o hc e => u.there b o e hc) u.tups u.frzs u.tbls (fun m' hm => by
    obtain ⟨o', es', ep', ho', r'⟩ := hm
    rw [ho] at ho'; cases ho'
    exact ⟨_, es', ep', hL, r'⟩) hok hg
theorem Inv.turned {t' : Nat} {it : Addr} (I : Inv X pins σ H s) (k : ∀ b o, b ≠ it → s.heap.get? b = some o → h'.get? b = some o) (hn : H it = none) (hL : it ≠ X.env.locals)
    (h1 : it ∈ X.ex ∨ X.s₀.heap.objs.size ≤ it) (h2 : ∀ x c, X.env.cells.lookup x = some c → c ≠ it) (h3 : ∀ p ∈ X.pn ++ pins, p.1 ≠ it) : Inv X pins σ H { s with heap := h', toks := t' } := by
  have nit : ∀ b u, H b = some u → b ≠ it := fun b u e z => by rw [z, hn] at e; cases e
  refine I.step (g' := s.gens) (d' := s.drawn) (ch := [it]) (fun b hb => ?_) (fun b o _ _ hc e _ => k b o (fun z => hc (by simp [z])) e) (fun b o _ _ hc e _ => ⟨o.slots, k b o (fun z => hc (by simp [z])) e⟩) (fun _ _ _ _ n => n)
    (fun b o hc e => ⟨o, k b o (fun z => hc (by simp [z])) e⟩) (fun _ _ e => e) (fun _ _ _ e => e) (fun b ps e => ⟨#[], by rw [e]; simp⟩) (fun m hm => ?_) (fun b u e => ?_) I.bare
  · have e : b = it := by simpa using hb
    subst e
    exact ⟨h1, hL, h2, h3⟩
  · obtain ⟨o, es, ep, ho, r⟩ := hm
    exact ⟨o, es, ep, k _ o (Ne.symm hL) ho, r⟩
  · refine (I.hok b u e).stay (fun c v hc q => k c v ?_ q) (fun _ q => q) fun _ _ q => q
    rcases hc with z | z
    · rw [z]; exact nit b u e
    · exact nit c _ z
theorem Inv.tok (I : Inv X pins σ H s) (t : Nat) : Inv X pins σ H { s with toks := t } := I.un (h' := s.heap) (t' := t) Un.refl I.hok
theorem Inv.kept {t' : Nat} (I : Inv X pins σ H s) (k : ∀ b u, s.heap.get? b = some u → h'.get? b = some u) : Inv X pins σ H { s with heap := h', toks := t' } := I.un (Un.kept k) (I.hok.kept k)
theorem Inv.laid {a : Addr} {o : HO} {t' : Nat} (I : Inv X pins σ H s) (k : ∀ b u, s.heap.get? b = some u → h'.get? b = some u) (hp : s.heap.objs.size ≤ a) (new : ObjOk X.prog X.w (upd H a o) h' a o) :
    Inv X pins σ (upd H a o) { s with heap := h', toks := t' } := I.un (Un.laid k hp (I.hok.fresh hp)) (I.hok.laid k hp new)
theorem Inv.write {x e : Addr} {o : HO} {t' : Nat} (I : Inv X pins σ H s) (mu : Mut (H x)) (he : e = x ∨ H e = some (.own x)) (k : ∀ b u, b ≠ e → s.heap.get? b = some u → h'.get? b = some u) (heo : ∃ u, h'.get? e = some u)
    (new : ObjOk X.prog X.w (upd H x o) h' x o) : Inv X pins σ (upd H x o) { s with heap := h', toks := t' } := I.un (Un.write mu he k heo) (I.hok.write mu he k heo new)
theorem Inv.weak {σ' : List (Option V)} (I : Inv X pins σ H s) (hl : σ'.length = σ.length) (w : ∀ (i : Nat) v, σ'[i]? = some (some v) → σ[i]? = some (some v)) : Inv X pins σ' H s :=
  ⟨I.ok, I.os, I.bare, I.base, let ⟨m, hn, hl'⟩ := I.loc; ⟨m, hn, fun i x v e1 e2 e3 => hl' i x v e1 (w i v e2) e3⟩, I.cell, I.free, I.freeC, I.pin, I.hok, hl.trans I.len⟩
theorem Inv.pins_of {pins' : List (Addr × Obj)} (I : Inv X pins σ H s) (h : ∀ p ∈ pins', s.heap.get? p.1 = some p.2 ∧ H p.1 = none ∧ p.1 ≠ X.env.locals ∧ p.1 ∉ X.fs ∧ ∀ v, p.2.data ≠ .cell v) : Inv X pins' σ H s :=
  ⟨I.ok, I.os, I.bare, I.base, I.loc, I.cell, I.free, I.freeC, fun p hp => (List.mem_append.mp hp).elim (fun z => I.pin p (List.mem_append_left _ z)) (h p), I.hok, I.len⟩
theorem nodup_ix {N : List Str} (hN : N.Nodup) {i j : Nat} {x : Str} (a : N[i]? = some x) (b : N[j]? = some x) : i = j := by
  obtain ⟨h1, e1⟩ := List.getElem?_eq_some_iff.mp a
  obtain ⟨h2, e2⟩ := List.getElem?_eq_some_iff.mp b
  exact (List.getElem_inj hN).mp (e1.trans e2.symm)
theorem store_ok2 {M : Model} {A : Around} {E : Value → Shared → Prop} {i : Nat} {x : Str} {v : V} {u : Value} {Q : Unit → Shared → Prop} (I : Inv X pins σ H s) (hN : X.N.Nodup) (hi : X.N[i]? = some x) (hx : Loc X.env.scope x) (r : RelV v u)
    (h : ∀ s', Inv X pins (σ.set i (some v)) H s' → (∃ a, Heap.SameBut a s.heap s'.heap ∧ (a = X.env.locals ∨ X.env.cells.lookup x = some a)) → Q () s') (hf : X.fn x = true ∨ X.env.scope.names.lookup x = some .local := by first | exact .inl rfl | exact .inr rfl | assumption) : wpAny M A (storeName X.env x u) Q E s := by
  obtain ⟨m, hn, hl⟩ := id I.loc
  have hcls : (X.env.scope.kind == .class || (X.env.scope.kind == .module && X.env.locals != X.env.globals)) = false := by rw [I.ok.kind]; rfl
  have hiσ : i < σ.length := by rw [I.len]; exact (List.getElem?_eq_some_iff.mp hi).1
  have cne := I.cne
  have tracked : ∀ {a : Addr} {h' : Heap}, (∃ o, s.heap.get? a = some o ∧ H a = none) → Heap.SameBut a s.heap h' → HOk X.prog X.w H h' := fun {a h'} ha hs b ob e => by
    obtain ⟨_, _, hfree⟩ := ha
    refine (I.hok b ob e).stay (fun c w' hc q => (hs.2 c ?_).trans q) (fun _ q => q) fun _ _ q => q
    rintro rfl
    rcases hc with rfl | hc
    · rw [hfree] at e; cases e
    · rw [hfree] at hc; cases hc
  rcases hx with hk | hk
  · refine wpAny_storeName_local hk hn (fun h' hn' hs => ?_) hcls
    obtain ⟨oL, _, _, hoL, _⟩ := id hn
    refine h _ ⟨I.ok, I.os, I.bare, ⟨fun b o e n hb hx => ?_, fun b o e n hb hx => ?_, I.base.free, fun b o e hx => ?_, I.base.tups, I.base.frzs, I.base.tbls⟩, ⟨_, hn', fun j y v' e1 e2 e3 => ?_⟩, fun y c e => ?_, I.free, I.freeC, fun p hp => ?_, tracked ⟨oL, hoL, I.free⟩ hs, by simpa using I.len⟩ ⟨_, hs, .inl rfl⟩
    · exact (hs.2 b (Nat.ne_of_lt (Nat.lt_of_lt_of_le (Heap.lt_size e) I.ok.above))).trans (I.base.keep b o e n hb hx)
    · obtain ⟨sl, e1⟩ := I.base.slot b o e n hb hx
      exact ⟨sl, (hs.2 b (Nat.ne_of_lt (Nat.lt_of_lt_of_le (Heap.lt_size e) I.ok.above))).trans e1⟩
    · obtain ⟨o', e1⟩ := I.base.there b o e hx
      exact ⟨o', (hs.2 b (Nat.ne_of_lt (Nat.lt_of_lt_of_le (Heap.lt_size e) I.ok.above))).trans e1⟩
    · by_cases hj : j = i
      · subst hj
        rw [hi] at e1; cases e1
        rw [List.getElem?_set_self hiσ] at e2
        cases e2
        exact ⟨u, r, .inl ⟨hk, by simp⟩⟩
      · rw [List.getElem?_set_ne (Ne.symm hj)] at e2
        obtain ⟨u', r', q⟩ := hl j y v' e1 e2 e3
        refine ⟨u', r', ?_⟩
        rcases q with ⟨k, e⟩ | ⟨k, c, e, z⟩
        · refine .inl ⟨k, ?_⟩
          have : y ≠ x := fun e => hj (nodup_ix hN e1 (e ▸ hi))
          simp [this, e]
        · exact .inr ⟨k, c, e, z.sameBut hs (cne y c e)⟩
    · obtain ⟨w', z⟩ := I.cell y c e
      exact ⟨w', z.sameBut hs (cne y c e)⟩
    · obtain ⟨e, n, ne, nf, d⟩ := I.pin p hp
      exact ⟨(hs.2 p.1 ne).trans e, n, ne, nf, d⟩
  · have hfn : X.fn x = true := by
      rcases hf with z | z
      · exact z
      · rw [z] at hk; cases hk
    obtain ⟨c, hc⟩ := I.ok.has x (.inl hk)
    obtain ⟨w', z⟩ := I.cell x c hc
    refine wpAny_storeName_cell I.ok.kind hk hc z (fun h' hc' hs => ?_)
    obtain ⟨oc, hoc, hocd⟩ := id z
    refine h { s with heap := h' } ⟨I.ok, I.os, I.bare, ⟨fun b o e n hb hx => ?_, fun b o e n hb hx => ?_, I.base.free, fun b o e hx => ?_, I.base.tups, I.base.frzs, I.base.tbls⟩, ⟨m, hn.sameBut hs (Ne.symm (cne x c hc)), fun j y v' e1 e2 e3 => ?_⟩, fun y c' e => ?_, I.free, I.freeC, fun p hp => ?_, tracked ⟨oc, hoc, I.freeC x c hc⟩ hs, by simpa using I.len⟩ ⟨c, hs, .inr hc⟩
    · exact (hs.2 b (Nat.ne_of_lt (Nat.lt_of_lt_of_le (Heap.lt_size e) (I.ok.cab x c hfn hc)))).trans (I.base.keep b o e n hb hx)
    · obtain ⟨sl, e1⟩ := I.base.slot b o e n hb hx
      exact ⟨sl, (hs.2 b (Nat.ne_of_lt (Nat.lt_of_lt_of_le (Heap.lt_size e) (I.ok.cab x c hfn hc)))).trans e1⟩
    · obtain ⟨o', e1⟩ := I.base.there b o e hx
      exact ⟨o', (hs.2 b (Nat.ne_of_lt (Nat.lt_of_lt_of_le (Heap.lt_size e) (I.ok.cab x c hfn hc)))).trans e1⟩
    · by_cases hj : j = i
      · subst hj
        rw [hi] at e1; cases e1
        rw [List.getElem?_set_self hiσ] at e2
        cases e2
        exact ⟨u, r, .inr ⟨.inl hk, c, hc, hc'⟩⟩
      · rw [List.getElem?_set_ne (Ne.symm hj)] at e2
        obtain ⟨u', r', q⟩ := hl j y v' e1 e2 e3
        refine ⟨u', r', ?_⟩
        rcases q with q | ⟨k, c', e, z'⟩
        · exact .inl q
        · refine .inr ⟨k, c', e, z'.sameBut hs ?_⟩
          rintro rfl
          exact hj (nodup_ix hN e1 (I.ok.inj _ _ _ e hc ▸ hi))
    · by_cases hcc : c' = c
      · subst hcc; exact ⟨_, hc'⟩
      · obtain ⟨w2, z2⟩ := I.cell y c' e
        exact ⟨w2, z2.sameBut hs hcc⟩
    · obtain ⟨e, n, ne, nf, d⟩ := I.pin p hp
      refine ⟨(hs.2 p.1 ?_).trans e, n, ne, nf, d⟩
      intro q
      rw [q, hoc] at e
      have q' : oc = p.2 := Option.some.inj e
      exact d w' (by rw [← q']; exact hocd)
theorem store_ok {M : Model} {A : Around} {E : Value → Shared → Prop} {i : Nat} {x : Str} {v : V} {u : Value} {Q : Unit → Shared → Prop} (I : Inv X pins σ H s) (hN : X.N.Nodup) (hi : X.N[i]? = some x) (hx : Loc X.env.scope x) (r : RelV v u)
    (h : ∀ s', Inv X pins (σ.set i (some v)) H s' → Q () s') (hf : X.fn x = true ∨ X.env.scope.names.lookup x = some .local := by first | exact .inl rfl | exact .inr rfl | assumption) : wpAny M A (storeName X.env x u) Q E s :=
  store_ok2 I hN hi hx r (fun s' I' _ => h s' I') hf
theorem Inv.call' {s' : Shared} {ch : List Addr} (I : Inv X pins σ H s) (ho : s'.os = s.os) (u : Un (frs X.stack) ch H H' s.heap s'.heap) (hok : HOk X.prog X.w H' s'.heap) (hg : AllBare s'.gens)
    (hch : ∀ b ∈ ch, (b ∈ X.ex ∨ X.s₀.heap.objs.size ≤ b) ∧ b ≠ X.env.locals ∧ (∀ x c, X.env.cells.lookup x = some c → c ≠ b) ∧ ∀ p ∈ X.pn ++ pins, p.1 ≠ b) : Inv X pins σ H' s' := by
  obtain ⟨h', g', d', t', o'⟩ := s'
  have e : o' = s.os := ho
  subst e
  exact I.call (g' := g') (t' := t') (d' := d') u hok hg hch
end
abbrev XK := Value → Option Addr → Hp → Prop
abbrev St := List (Option V)
abbrev VK := V → Hp → Prop
abbrev TE := St → Hp → VK → Prop
abbrev TT := St → Hp → (Bool → Hp → Prop) → Prop
abbrev TA := St → Hp → (List V → Hp → Prop) → Prop
structure Ends where
  nx : St → Hp → Prop
  rt : VK
  bk : St → Hp → Prop := fun _ _ => False
  ct : St → Hp → Prop := fun _ _ => False
abbrev TS := Ends → St → Hp → Prop
def EP (X : Cx) (pins : List (Addr × Obj)) (σ : St) (Q : VK) (u : Value) (s' : Shared) : Prop := ∃ v H', Inv X pins σ H' s' ∧ RelV v u ∧ Q v H'
def TP (X : Cx) (pins : List (Addr × Obj)) (σ : St) (Q : Bool → Hp → Prop) (b : Bool) (s' : Shared) : Prop := ∃ H', Inv X pins σ H' s' ∧ Q b H'
def AP (X : Cx) (pins : List (Addr × Obj)) (σ : St) (Q : List V → Hp → Prop) (us : List Value) (s' : Shared) : Prop := ∃ vs H', Inv X pins σ H' s' ∧ Vals vs us ∧ Q vs H'
def SP (X : Cx) (pins : List (Addr × Obj)) (D : Ends) (f : Flow) (s' : Shared) : Prop :=
  match f with
  | .next => ∃ σ' H', Inv X pins σ' H' s' ∧ D.nx σ' H'
  | .brk => ∃ σ' H', Inv X pins σ' H' s' ∧ D.bk σ' H'
  | .cont => ∃ σ' H', Inv X pins σ' H' s' ∧ D.ct σ' H'
  | .ret u => ∃ v σ' H', Inv X pins σ' H' s' ∧ RelV v u ∧ D.rt v H'
def PE (X : Cx) (e : Expr) (t : TE) : Prop :=
  ∀ (pins : List (Addr × Obj)) (s : Shared) (σ : St) (H : Hp) (Q : VK), Inv X pins σ H s → t σ H Q → wpAny (model X.prog X.w) X.A (eval e X.env) (EP X pins σ Q) X.xe s
def PT (X : Cx) (e : Expr) (t : TT) : Prop :=
  ∀ (pins : List (Addr × Obj)) (s : Shared) (σ : St) (H : Hp) (Q : Bool → Hp → Prop), Inv X pins σ H s → t σ H Q → wpAny (model X.prog X.w) X.A (isTrue e X.env (eval e X.env)) (TP X pins σ Q) X.xe s
def PW (X : Cx) (e : Expr) (t : TT) : Prop :=
  ∀ (whole : Sem Value) (pins : List (Addr × Obj)) (s : Shared) (σ : St) (H : Hp) (Q : Bool → Hp → Prop), Inv X pins σ H s → t σ H Q → wpAny (model X.prog X.w) X.A (isTrue e X.env whole) (TP X pins σ Q) X.xe s
theorem PW.pt {X : Cx} {e : Expr} {t : TT} (h : PW X e t) : PT X e t := h _
def PA (X : Cx) (es : List Expr) (t : TA) : Prop :=
  ∀ (pos : Pos) (pins : List (Addr × Obj)) (s : Shared) (σ : St) (H : Hp) (Q : List V → Hp → Prop), Inv X pins σ H s → t σ H Q → wpAny (model X.prog X.w) X.A (spliced (backTo pos (starEach es X.env))) (AP X pins σ Q) X.xe s
def PS (X : Cx) (st : Stmt) (t : TS) : Prop :=
  ∀ (pins : List (Addr × Obj)) (s : Shared) (σ : St) (H : Hp) (D : Ends), Inv X pins σ H s → t D σ H → wpAny (model X.prog X.w) X.A (exec st X.env) (SP X pins D) X.xe s
def PSs (X : Cx) (st : List Stmt) (t : TS) : Prop :=
  ∀ (pins : List (Addr × Obj)) (s : Shared) (σ : St) (H : Hp) (D : Ends), Inv X pins σ H s → t D σ H → wpAny (model X.prog X.w) X.A (execs st X.env) (SP X pins D) X.xe s
theorem thn {α : Type} {t : Sem α} {Q Q' : α → Shared → Prop} {M : Model} {A : Around} {E : Value → Shared → Prop} {s : Shared} (h : wpAny M A t Q E s) (hQ : ∀ a s, Q a s → Q' a s) : wpAny M A t Q' E s := wpAny_mono h hQ fun _ _ x => x
end L2
namespace L2
open PySem PySem.Spec PyProof.Rows
section
variable {X : Cx}
theorem bin {a b : Expr} {ta tb : TE} (ha : PE X a ta) (hb : PE X b tb) {pins : List (Addr × Obj)} {s : Shared} {σ : St} {H : Hp} {R : V → V → Hp → Prop} (I : Inv X pins σ H s) (h : ta σ H fun x H1 => tb σ H1 fun y H2 => R x y H2)
    {α : Type} {Q : α → Shared → Prop} {f : Value → Value → Sem α}
    (hf : ∀ v u s2 x y H2, Inv X pins σ H2 s2 → RelV x v → RelV y u → R x y H2 → wpAny (model X.prog X.w) X.A (f v u) Q X.xe s2) :
    wpAny (model X.prog X.w) X.A (eval a X.env) (fun v s₁ => wpAny (model X.prog X.w) X.A (eval b X.env) (fun u s₂ => wpAny (model X.prog X.w) X.A (f v u) Q X.xe s₂) X.xe s₁) X.xe s := by
  refine thn (ha pins s σ H _ I h) fun v s1 ⟨x, H1, I1, r1, q1⟩ => ?_
  refine thn (hb pins s1 σ H1 _ I1 q1) fun u s2 ⟨y, H2, I2, r2, q2⟩ => ?_
  exact hf v u s2 x y H2 I2 r1 r2 q2
def tVar (i : Nat) : TE := fun σ H Q => ∃ v, σ[i]? = some (some v) ∧ Q v H
def tC (v : V) : TE := fun _ H Q => Q v H
theorem pe_var {i : Nat} {x : Str} {pos : Pos} (hN : X.N[i]? = some x) (hv : Vis X.env.scope x) (hd : (x == ("__debug__" : Str)) = false := by decide) (hcd : (x == ("__classdict__" : Str)) = false := by decide) : PE X (.Name x pos) (tVar i) := by
  intro pins s σ H Q I h
  obtain ⟨v, e, h⟩ := h
  obtain ⟨m, hn, hl⟩ := I.loc
  obtain ⟨u, r, l⟩ := hl i x v hN e hv
  have fin : EP X pins σ Q u s := ⟨v, H, I, r, h⟩
  rcases l with ⟨hk, hm⟩ | ⟨hk, c, hc, hcell⟩
  · exact wpAny_Name (wpAny_loadName_local I.ok.kind hk hn hm fin) hd
  · rcases hk with hk | hk
    · exact wpAny_Name (wpAny_loadName_cell I.ok.kind hk hc hcell fin) hd
    · exact wpAny_Name (wpAny_loadName_free I.ok.kind hk hc hcell fin hcd) hd
theorem pe_int {i j pos} : PE X (.Constant (.int i) j pos) (tC (.int i)) := fun _ _ _ H _ I h => wpAny_Constant_int ⟨.int i, H, I.tok _, ⟨_, rfl⟩, h⟩
theorem pe_bl {b j pos} : PE X (.Constant (.bool b) j pos) (tC (.bl b)) := fun _ _ _ H _ I h => Constant_bool ⟨.bl b, H, I, rfl, h⟩
theorem pe_non {j pos} : PE X (.Constant .none j pos) (tC .non) := fun _ _ _ H _ I h => Constant_none ⟨.non, H, I, rfl, h⟩
theorem pe_str {x j pos} : PE X (.Constant (.str x) j pos) (tC (.str x)) := fun _ _ _ H _ I h => Calls.Constant_str ⟨.str x, H, I.tok _, ⟨_, rfl⟩, h⟩
def Gl (X : Cx) (x : Str) : Prop := X.env.kindOf x = some .globalImplicit
theorem ld_glob {E : Value → Shared → Prop} {pins : List (Addr × Obj)} {s : Shared} {σ : St} {H : Hp} {x : Str} {u : Value} {pos : Pos} {Q : Value → Shared → Prop} (I : Inv X pins σ H s) (hg : Gl X x) (hm : X.mg x = some u) (h : Q u s)
    (hd : (x == ("__debug__" : Str)) = false := by decide) : wpAny (model X.prog X.w) X.A (eval (.Name x pos) X.env) Q E s :=
  Calls.Name_function_global I.ok.kind hg (Calls.loadGlobal_global (by rw [I.ok.glob]; exact I.mod.glob.keeps I.bk) hm h) hd
theorem ld_blt {E : Value → Shared → Prop} {pins : List (Addr × Obj)} {s : Shared} {σ : St} {H : Hp} {x : Str} {u : Value} {pos : Pos} {Q : Value → Shared → Prop} (I : Inv X pins σ H s) (hg : Gl X x) (hm : X.mg x = none) (hv : bootBuiltins x = some u) (h : Q u s)
    (hn : x ≠ "__name__" := by decide) (hd : (x == ("__debug__" : Str)) = false := by decide) : wpAny (model X.prog X.w) X.A (eval (.Name x pos) X.env) Q E s := by
  obtain ⟨mb, h1, h2⟩ := I.mod.blt
  exact Calls.Name_function_global I.ok.kind hg (Calls.loadGlobal_builtin (by rw [I.ok.glob]; exact I.mod.glob.keeps I.bk) hm (by rw [I.ok.blt]; exact h1.keeps I.bk) ((h2 x hn).trans hv) h) hd
theorem pe_glob {x : Str} {v : V} {u : Value} {pos : Pos} (hg : Gl X x) (hm : X.mg x = some u) (r : RelV v u) (hd : (x == ("__debug__" : Str)) = false := by decide) : PE X (.Name x pos) (tC v) :=
  fun _ _ _ H _ I h => ld_glob I hg hm ⟨v, H, I, r, h⟩ hd
theorem pe_bltn {x : Str} {v : V} {u : Value} {pos : Pos} (hg : Gl X x) (hm : X.mg x = none) (hv : bootBuiltins x = some u) (r : RelV v u) (hn : x ≠ "__name__" := by decide) (hd : (x == ("__debug__" : Str)) = false := by decide) : PE X (.Name x pos) (tC v) :=
  fun _ _ _ H _ I h => ld_blt I hg hm hv ⟨v, H, I, r, h⟩ hn hd
def t2I (ta tb : TE) (k : Int → Int → Hp → Prop) : St → Hp → Prop := fun σ H => ta σ H fun x H1 => tb σ H1 fun y H2 => ∃ i j, x = .int i ∧ y = .int j ∧ k i j H2
def tAdd (ta tb : TE) : TE := fun σ H Q => t2I ta tb (fun i j H2 => Q (.int (i + j)) H2) σ H
def tSub (ta tb : TE) : TE := fun σ H Q => t2I ta tb (fun i j H2 => Q (.int (i - j)) H2) σ H
def tMul (ta tb : TE) : TE := fun σ H Q => t2I ta tb (fun i j H2 => (-(2 ^ 64) < i ∧ i < 2 ^ 64) ∧ Q (.int (i * j)) H2) σ H
variable {a b : Expr} {ta tb : TE} {pos : Pos}
theorem pe_add (ha : PE X a ta) (hb : PE X b tb) : PE X (.BinOp a .Add b pos) (tAdd ta tb) := by
  intro pins s σ H Q I h
  refine wpAny_BinOp (bin ha hb I h fun v u s2 x y H2 I2 rx ry q => ?_)
  obtain ⟨i, j, rfl, rfl, q⟩ := q
  obtain ⟨t, rfl⟩ := rx
  obtain ⟨t', rfl⟩ := ry
  exact add_int ⟨.int _, H2, I2.tok _, ⟨_, rfl⟩, q⟩
theorem pe_sub (ha : PE X a ta) (hb : PE X b tb) : PE X (.BinOp a .Sub b pos) (tSub ta tb) := by
  intro pins s σ H Q I h
  refine wpAny_BinOp (bin ha hb I h fun v u s2 x y H2 I2 rx ry q => ?_)
  obtain ⟨i, j, rfl, rfl, q⟩ := q
  obtain ⟨t, rfl⟩ := rx
  obtain ⟨t', rfl⟩ := ry
  exact sub_int ⟨.int _, H2, I2.tok _, ⟨_, rfl⟩, q⟩
theorem pe_mul (ha : PE X a ta) (hb : PE X b tb) : PE X (.BinOp a .Mult b pos) (tMul ta tb) := by
  intro pins s σ H Q I h
  refine wpAny_BinOp (bin ha hb I h fun v u s2 x y H2 I2 rx ry q => ?_)
  obtain ⟨i, j, rfl, rfl, ⟨q1, q2⟩, q⟩ := q
  obtain ⟨t, rfl⟩ := rx
  obtain ⟨t', rfl⟩ := ry
  exact mul_int ⟨.int _, H2, I2.tok _, ⟨_, rfl⟩, q⟩ (.of_left (intBits_le_64 q1 q2))
def PC (X : Cx) (op : CmpOp) (a b : Expr) (t : TE) : Prop :=
  ∀ (pins : List (Addr × Obj)) (s : Shared) (σ : St) (H : Hp) (Q : VK), Inv X pins σ H s → t σ H Q →
    wpAny (model X.prog X.w) X.A (eval a X.env) (fun v s₁ => wpAny (model X.prog X.w) X.A (eval b X.env) (fun u s₂ => wpAny (model X.prog X.w) X.A (compareOp op v u) (EP X pins σ Q) X.xe s₂) X.xe s₁) X.xe s
theorem nobehind (b : Expr) {op : CmpOp} (h : op ≠ .In) (h2 : op ≠ .NotIn) : behindInMarks op b = false := by
  have e1 : (op == CmpOp.In) = false := by cases op <;> first | rfl | exact absurd rfl h
  have e2 : (op == CmpOp.NotIn) = false := by cases op <;> first | rfl | exact absurd rfl h2
  cases b <;> simp [behindInMarks, e1, e2]
def tCmp (p : Int → Int → Bool) (ta tb : TE) : TE := fun σ H Q => t2I ta tb (fun i j H2 => Q (.bl (p i j)) H2) σ H
abbrev tLt : TE → TE → TE := tCmp fun i j => decide (i < j)
abbrev tLe : TE → TE → TE := tCmp fun i j => decide (i ≤ j)
abbrev tGt : TE → TE → TE := tCmp fun i j => decide (j < i)
abbrev tGe : TE → TE → TE := tCmp fun i j => decide (j ≤ i)
abbrev tEqI : TE → TE → TE := tCmp fun i j => decide (i = j)
abbrev tNeI : TE → TE → TE := tCmp fun i j => !decide (i = j)
theorem pc_int {op : CmpOp} {p : Int → Int → Bool} (ha : PE X a ta) (hb : PE X b tb)
    (rule : ∀ (i j : Int) (t u : Tok) (Q : Value → Shared → Prop) (s : Shared), Q (.bool (p i j)) s → wpAny (model X.prog X.w) X.A (compareOp op (.int i t) (.int j u)) Q X.xe s) : PC X op a b (tCmp p ta tb) := by
  intro pins s σ H Q I h
  refine bin ha hb I h fun v u s2 x y H2 I2 rx ry q => ?_
  obtain ⟨i, j, rfl, rfl, q⟩ := q
  obtain ⟨t, rfl⟩ := rx
  obtain ⟨t', rfl⟩ := ry
  exact rule i j t t' _ s2 ⟨.bl _, H2, I2, rfl, q⟩
theorem pc_lt (ha : PE X a ta) (hb : PE X b tb) : PC X .Lt a b (tLt ta tb) := pc_int ha hb fun _ _ _ _ _ _ h => lt_int h
theorem pc_le (ha : PE X a ta) (hb : PE X b tb) : PC X .LtE a b (tLe ta tb) := pc_int ha hb fun _ _ _ _ _ _ h => le_int h
theorem pc_gt (ha : PE X a ta) (hb : PE X b tb) : PC X .Gt a b (tGt ta tb) := pc_int ha hb fun _ _ _ _ _ _ h => gt_int h
theorem pc_ge (ha : PE X a ta) (hb : PE X b tb) : PC X .GtE a b (tGe ta tb) := pc_int ha hb fun _ _ _ _ _ _ h => ge_int h
theorem pc_eqI (ha : PE X a ta) (hb : PE X b tb) : PC X .Eq a b (tEqI ta tb) := pc_int ha hb fun _ _ _ _ _ _ h => eq_int (by rw [Bool.beq_eq_decide_eq]; exact h)
theorem pc_neI (ha : PE X a ta) (hb : PE X b tb) : PC X .NotEq a b (tNeI ta tb) := pc_int ha hb fun _ _ _ _ _ _ h => ne_int (by rw [bne, Bool.beq_eq_decide_eq]; exact h)
def tIsN (ta : TE) : TE := fun σ H Q => ta σ H fun x H1 => Q (.bl (decide (x = .non))) H1
def tNotN (ta : TE) : TE := fun σ H Q => ta σ H fun x H1 => Q (.bl (!decide (x = .non))) H1
theorem RelV.none_iff {x : V} {v : Value} (r : RelV x v) : (v == Value.none) = decide (x = .non) := by
  cases x with
  | non => cases r; rfl
  | bl _ => cases r; rfl
  | int _ => obtain ⟨t, rfl⟩ := r; rfl
  | str _ => obtain ⟨t, rfl⟩ := r; rfl
  | byt _ => obtain ⟨t, rfl⟩ := r; rfl
  | flt _ => obtain ⟨t, rfl⟩ := r; rfl
  | ref _ => cases r; rfl
  | ty _ => cases r; rfl
theorem pc_isN {j pos'} (ha : PE X a ta) : PC X .Is a (.Constant .none j pos') (tIsN ta) := by
  intro pins s σ H Q I h
  refine thn (ha pins s σ H _ I h) fun v s1 ⟨x, H1, I1, r1, q1⟩ => ?_
  exact Constant_none (is_none_gen ⟨.bl _, H1, I1, by rw [r1.none_iff]; rfl, q1⟩)
theorem pc_notN {j pos'} (ha : PE X a ta) : PC X .IsNot a (.Constant .none j pos') (tNotN ta) := by
  intro pins s σ H Q I h
  refine thn (ha pins s σ H _ I h) fun v s1 ⟨x, H1, I1, r1, q1⟩ => ?_
  exact Constant_none (isnot_none_gen ⟨.bl _, H1, I1, by rw [r1.none_iff]; rfl, q1⟩)
def tB (t : TE) : TT := fun σ H Q => t σ H fun x H1 => ∃ c, x = .bl c ∧ Q c H1
theorem pe_cmp {op : CmpOp} {t : TE} (h : PC X op a b t) (h1 : behindInMarks op b = false := by first | exact nobehind _ (by decide) (by decide) | rfl) : PE X (.Compare a [op] [b] pos) t := fun pins s σ H Q I hw => wpAny_Compare1 (h pins s σ H Q I hw) h1
theorem pt_cmp {op : CmpOp} {t : TE} (h : PC X op a b t) (h1 : behindInMarks op b = false := by first | exact nobehind _ (by decide) (by decide) | rfl) : PT X (.Compare a [op] [b] pos) (tB t) := by
  intro pins s σ H Q I hw
  refine wpAny_isTrue_Compare1 (thn (h pins s σ H _ I hw) fun v s1 h1 => thn h1 fun u s2 h2 => thn h2 fun c s3 ⟨x, H1, I1, r1, q1⟩ => ?_) h1
  obtain ⟨d, rfl, q⟩ := q1
  cases r1
  exact wpAny_truthy_bool ⟨H1, I1, q⟩
theorem pt_val {e : Expr} {t : TE} (h : PE X e t) (he : ∀ whole, isTrue e X.env whole = (do let v ← whole; standAt e.pos; holding [v] (truthy v)) := by intro _; rfl) : PT X e (tB t) := by
  intro pins s σ H Q I hw
  refine isTrue_plain (thn (h pins s σ H _ I hw) fun v s1 ⟨x, H1, I1, r1, q1⟩ => ?_) (he _)
  obtain ⟨d, rfl, q⟩ := q1
  cases r1
  exact wpAny_truthy_bool ⟨H1, I1, q⟩
variable {tA tB' : TT} {rest : List Expr}
def tAnd (t u : TT) : TT := fun σ H Q => t σ H fun c H1 => if c = true then u σ H1 Q else Q false H1
def tOr (t u : TT) : TT := fun σ H Q => t σ H fun c H1 => if c = true then Q true H1 else u σ H1 Q
def tNot (t : TT) : TT := fun σ H Q => t σ H fun c H1 => Q (!c) H1
theorem pw_and1 (ha : PT X a tA) : PW X (.BoolOp .And [a] pos) tA := by
  intro wh pins s σ H Q I h
  refine isTrue_and (thn (ha pins s σ H Q I h) fun c s1 e => ?_)
  cases c with
  | true => exact isTrue_and_nil e
  | false => exact e
theorem pw_or1 (ha : PT X a tA) : PW X (.BoolOp .Or [a] pos) tA := by
  intro wh pins s σ H Q I h
  refine isTrue_or (thn (ha pins s σ H Q I h) fun c s1 e => ?_)
  cases c with
  | false => exact isTrue_or_nil e
  | true => exact e
theorem pw_and (ha : PT X a tA) (hb : PW X (.BoolOp .And (b :: rest) pos) tB') : PW X (.BoolOp .And (a :: b :: rest) pos) (tAnd tA tB') := by
  intro wh pins s σ H Q I h
  refine isTrue_and (thn (ha pins s σ H _ I h) fun c s1 ⟨H1, I1, q1⟩ => ?_)
  cases c with
  | true => exact hb wh pins s1 σ H1 Q I1 q1
  | false => exact ⟨H1, I1, q1⟩
theorem pw_or (ha : PT X a tA) (hb : PW X (.BoolOp .Or (b :: rest) pos) tB') : PW X (.BoolOp .Or (a :: b :: rest) pos) (tOr tA tB') := by
  intro wh pins s σ H Q I h
  refine isTrue_or (thn (ha pins s σ H _ I h) fun c s1 ⟨H1, I1, q1⟩ => ?_)
  cases c with
  | true => exact ⟨H1, I1, q1⟩
  | false => exact hb wh pins s1 σ H1 Q I1 q1
theorem pt_not (ha : PT X a tA) : PT X (.UnaryOp .Not a pos) (tNot tA) := by
  intro pins s σ H Q I h
  exact isTrue_not (ha pins s σ H (fun c H1 => Q (!c) H1) I h)
def tAndV (ta tb : TE) : TE := fun σ H Q => ta σ H fun x H1 => ∃ c, x = .bl c ∧ if c = true then tb σ H1 Q else Q (.bl false) H1
def tOrV (ta tb : TE) : TE := fun σ H Q => ta σ H fun x H1 => ∃ c, x = .bl c ∧ if c = true then Q (.bl true) H1 else tb σ H1 Q
def tNotV (ta : TE) : TE := fun σ H Q => ta σ H fun x H1 => ∃ c, x = .bl c ∧ Q (.bl (!c)) H1
theorem pe_one {op} {t : TE} (h : PE X a t) : PE X (.BoolOp op [a] pos) t := fun pins s σ H Q I hw => BoolOp_one (h pins s σ H Q I hw)
theorem pe_and (ha : PE X a ta) (hb : PE X (.BoolOp .And (b :: rest) pos) tb) : PE X (.BoolOp .And (a :: b :: rest) pos) (tAndV ta tb) := by
  intro pins s σ H Q I h
  refine BoolOp_and (thn (ha pins s σ H _ I h) fun v s1 ⟨x, H1, I1, r1, q1⟩ => ?_)
  obtain ⟨c, rfl, q1⟩ := q1
  cases r1
  refine wpAny_truthy_bool ?_
  cases c with
  | true => exact hb pins s1 σ H1 Q I1 q1
  | false => exact ⟨.bl false, H1, I1, rfl, q1⟩
theorem pe_or (ha : PE X a ta) (hb : PE X (.BoolOp .Or (b :: rest) pos) tb) : PE X (.BoolOp .Or (a :: b :: rest) pos) (tOrV ta tb) := by
  intro pins s σ H Q I h
  refine BoolOp_or (thn (ha pins s σ H _ I h) fun v s1 ⟨x, H1, I1, r1, q1⟩ => ?_)
  obtain ⟨c, rfl, q1⟩ := q1
  cases r1
  refine wpAny_truthy_bool ?_
  cases c with
  | false => exact hb pins s1 σ H1 Q I1 q1
  | true => exact ⟨.bl true, H1, I1, rfl, q1⟩
theorem pe_not (ha : PE X a ta) : PE X (.UnaryOp .Not a pos) (tNotV ta) := by
  intro pins s σ H Q I h
  refine UnaryOp_ (thn (ha pins s σ H _ I h) fun v s1 ⟨x, H1, I1, r1, q1⟩ => ?_)
  obtain ⟨c, rfl, q1⟩ := q1
  cases r1
  exact not_of (wpAny_truthy_bool ⟨.bl (!c), H1, I1, rfl, q1⟩)
def tIf (t : TT) (ta tb : TE) : TE := fun σ H Q => t σ H fun c H1 => if c = true then ta σ H1 Q else tb σ H1 Q
theorem pe_ifExp {c : Expr} (hc : PT X c tA) (ha : PE X a ta) (hb : PE X b tb) : PE X (.IfExp c a b pos) (tIf tA ta tb) := by
  intro pins s σ H Q I h
  refine wpAny_IfExp (thn (hc pins s σ H _ I h) fun d s1 ⟨H1, I1, q1⟩ => ?_)
  cases d with
  | true => exact ha pins s1 σ H1 Q I1 q1
  | false => exact hb pins s1 σ H1 Q I1 q1
end
end L2
namespace L2
open PySem PySem.Spec PyProof.Rows
def SqL (K : PySem.W.Frag) (H : Hp) (a : Addr) (xs : List V) : Prop :=
  Rd H a (.lst xs) ∨
    ∃ (o : Obj) (its : Array Value) (n : Nat), K.lookup a = some o ∧ o.cls = .type "list" ∧ o.dict = none ∧ o.data = .seq its n ∧ its.size ≤ sizeLine ∧ Vals xs its.toList
def SqT (K : PySem.W.Frag) (H : Hp) (a : Addr) (xs : List V) : Prop :=
  Rd H a (.tup xs) ∨
    ∃ (o : Obj) (its : Array Value) (n : Nat), K.lookup a = some o ∧ o.cls = .type "tuple" ∧ o.data = .seq its n ∧ its.size ≤ sizeLine ∧ Vals xs its.toList
def absV : Value → Option V
  | .none => some .non
  | .bool b => some (.bl b)
  | .int i _ => some (.int i)
  | .str x _ => some (.str x)
  | .bytes b _ => some (.byt b)
  | .float b _ => some (.flt b)
  | .ref a => some (.ref a)
  | .type n => some (.ty n)
  | _ => none
theorem RelV.abs {x : V} {u : Value} (r : RelV x u) : absV u = some x := by
  cases x with
  | non => cases r; rfl
  | bl _ => cases r; rfl
  | int _ => obtain ⟨t, rfl⟩ := r; rfl
  | str _ => obtain ⟨t, rfl⟩ := r; rfl
  | byt _ => obtain ⟨t, rfl⟩ := r; rfl
  | flt _ => obtain ⟨t, rfl⟩ := r; rfl
  | ref _ => cases r; rfl
  | ty _ => cases r; rfl
theorem RelV.inj {x y : V} {u : Value} (r : RelV x u) (q : RelV y u) : x = y := Option.some.inj (r.abs.symm.trans q.abs)
theorem Vals.inj : ∀ {xs ys : List V} {us : List Value}, Vals xs us → Vals ys us → xs = ys
  | _, _, _, .nil, .nil => rfl
  | _, _, _, .cons r t, .cons r' t' => by rw [r.inj r', Vals.inj t t']
section
variable {X : Cx} {pins : List (Addr × Obj)} {σ : St} {H : Hp} {s : Shared} {a : Addr} {xs ys : List V}
theorem SqL.of {K : PySem.W.Frag} (h : H a = some (.lst xs)) : SqL K H a xs := .inl (.inl h)
theorem SqT.of {K : PySem.W.Frag} (h : H a = some (.tup xs)) : SqT K H a xs := .inl (.inl h)
theorem Inv.list (I : Inv X pins σ H s) (h : SqL X.K H a xs) : ∃ its : List Value, Vals xs its ∧ PlainL s.heap a its.toArray ∧ xs.length ≤ sizeLine := by
  rcases h with h | ⟨o, its, n, hk, hc, hd, hs, hz, r⟩
  · obtain ⟨z, its, n, r, e⟩ := h.ok I.hok
    exact ⟨its, r, ⟨_, n, e, rfl, rfl, rfl⟩, z⟩
  · refine ⟨its.toList, r, ⟨o, n, I.kIn a o hk, hc, hd, by simpa using hs⟩, ?_⟩
    have e := r.length
    simp only [Array.length_toList] at e
    omega
theorem Inv.tuple (I : Inv X pins σ H s) (h : SqT X.K H a xs) : ∃ its : List Value, Vals xs its ∧ IsTup s.heap a its.toArray ∧ xs.length ≤ sizeLine := by
  rcases h with h | ⟨o, its, n, hk, hc, hs, hz, r⟩
  · obtain ⟨z, its, r, p⟩ := h.ok I.hok
    exact ⟨its, r, p, z⟩
  · refine ⟨its.toList, r, ⟨o, I.kIn a o hk, hc, n, by simpa using hs⟩, ?_⟩
    have e := r.length
    simp only [Array.length_toList] at e
    omega
theorem Inv.list_inj (I : Inv X pins σ H s) (h : SqL X.K H a xs) (h' : SqL X.K H a ys) : xs = ys := by
  obtain ⟨its, r, ⟨o, n, e, _, _, d⟩, _⟩ := I.list h
  obtain ⟨its', r', ⟨o', n', e', _, _, d'⟩, _⟩ := I.list h'
  rw [e] at e'; cases e'
  rw [d] at d'
  injection d' with d1 _
  have : its = its' := by simpa using congrArg Array.toList d1
  subst this
  exact r.inj r'
theorem Inv.tuple_inj (I : Inv X pins σ H s) (h : SqT X.K H a xs) (h' : SqT X.K H a ys) : xs = ys := by
  obtain ⟨its, r, ⟨o, e, _, n, d⟩, _⟩ := I.tuple h
  obtain ⟨its', r', ⟨o', e', _, n', d'⟩, _⟩ := I.tuple h'
  rw [e] at e'; cases e'
  rw [d] at d'
  injection d' with d1 _
  have : its = its' := by simpa using congrArg Array.toList d1
  subst this
  exact r.inj r'
end
abbrev Cx.wish (X : Cx) (E : Value → Shared → Prop) : Cx := { X with xe := E }
abbrev Cx.nox (X : Cx) : Cx := X.wish fun _ _ => False
theorem Cx.Ok.wish {X : Cx} (ok : X.Ok) (E : Value → Shared → Prop) : (X.wish E).Ok :=
  ⟨ok.mod, ok.kind, ok.glob, ok.blt, ok.above, ok.inj, ok.has, ok.cab, ok.hd, ok.frames, ok.stk, ok.exf, ok.bs, ok.bsz, ok.noex, ok.exfs, ok.funs, ok.frf⟩
theorem Cx.Ok.unwish {X : Cx} {E : Value → Shared → Prop} (ok : (X.wish E).Ok) : X.Ok :=
  ⟨ok.mod, ok.kind, ok.glob, ok.blt, ok.above, ok.inj, ok.has, ok.cab, ok.hd, ok.frames, ok.stk, ok.exf, ok.bs, ok.bsz, ok.noex, ok.exfs, ok.funs, ok.frf⟩
section
variable {X : Cx} {pins : List (Addr × Obj)} {σ : St} {H : Hp} {s : Shared} {E : Value → Shared → Prop}
theorem Inv.wish (I : Inv X pins σ H s) (E : Value → Shared → Prop) : Inv (X.wish E) pins σ H s := ⟨I.ok.wish E, I.os, I.bare, I.base, I.loc, I.cell, I.free, I.freeC, I.pin, I.hok, I.len⟩
theorem Inv.unwish (I : Inv (X.wish E) pins σ H s) : Inv X pins σ H s := ⟨I.ok.unwish, I.os, I.bare, I.base, I.loc, I.cell, I.free, I.freeC, I.pin, I.hok, I.len⟩
theorem SP.unwish {D : Ends} {f : Flow} {s' : Shared} (h : SP (X.wish E) pins D f s') : SP X pins D f s' := by
  cases f with
  | next => obtain ⟨σ', H', I, q⟩ := h; exact ⟨σ', H', I.unwish, q⟩
  | brk => obtain ⟨σ', H', I, q⟩ := h; exact ⟨σ', H', I.unwish, q⟩
  | cont => obtain ⟨σ', H', I, q⟩ := h; exact ⟨σ', H', I.unwish, q⟩
  | ret u => obtain ⟨v, σ', H', I, r, q⟩ := h; exact ⟨v, σ', H', I.unwish, r, q⟩
theorem PE.nox {e : Expr} {t : TE} (h : PE X.nox e t) : PE X e t := fun pins s σ H Q I hw =>
  wpAny_mono (h pins s σ H Q (I.wish _) hw) (fun _ _ ⟨v, H', I', r, q⟩ => ⟨v, H', I'.unwish, r, q⟩) fun _ _ z => False.elim z
theorem PT.nox {e : Expr} {t : TT} (h : PT X.nox e t) : PT X e t := fun pins s σ H Q I hw =>
  wpAny_mono (h pins s σ H Q (I.wish _) hw) (fun _ _ ⟨H', I', q⟩ => ⟨H', I'.unwish, q⟩) fun _ _ z => False.elim z
theorem PSs.nox {st : List Stmt} {t : TS} (h : PSs X.nox st t) : PSs X st t := fun pins s σ H D I hw =>
  wpAny_mono (h pins s σ H D (I.wish _) hw) (fun _ _ q => q.unwish) fun _ _ z => False.elim z
end
section
variable {X : Cx} {st : Stmt} {rest : List Stmt} {t u : TS} {e : Expr} {te : TE} {pos : Pos}
def tNext : TS := fun D σ H => D.nx σ H
def tSeq (t u : TS) : TS := fun D σ H => t { D with nx := u D } σ H
theorem pss_nil : PSs X [] tNext := fun _ _ σ H _ I h => wpAny_execs_nil ⟨σ, H, I, h⟩
theorem pss_cons (h1 : PS X st t) (h2 : PSs X rest u) : PSs X (st :: rest) (tSeq t u) := by
  intro pins s σ H D I h
  refine wpAny_execs_cons (thn (h1 pins s σ H { D with nx := u D } I h) fun f s1 q => ?_)
  cases f with
  | next =>
    obtain ⟨σ', H', I', q⟩ := q
    exact h2 pins s1 σ' H' D I' q
  | ret v => exact q
  | brk => exact q
  | cont => exact q
theorem pss_one (h1 : PS X st t) : PSs X [st] t := by
  intro pins s σ H D I h
  refine wpAny_execs_cons (thn (h1 pins s σ H D I h) fun f s1 q => ?_)
  cases f with
  | next => exact wpAny_execs_nil q
  | ret v => exact q
  | brk => exact q
  | cont => exact q
def tBreak : TS := fun D σ H => D.bk σ H
def tCont : TS := fun D σ H => D.ct σ H
theorem ps_pass : PS X (.Pass pos) tNext := fun _ _ σ H _ I h => wpAny_Pass ⟨σ, H, I, h⟩
theorem ps_break : PS X (.Break pos) tBreak := fun _ _ σ H _ I h => wpAny_Break ⟨σ, H, I, h⟩
theorem ps_continue : PS X (.Continue pos) tCont := fun _ _ σ H _ I h => wpAny_Continue ⟨σ, H, I, h⟩
theorem Inv.quiet {pins : List (Addr × Obj)} {σ : St} {H : Hp} {s : Shared} (I : Inv X pins σ H s) : interactive X.env = false := by simp [interactive, I.ok.kind]
theorem ps_doc {x j pos pos'} : PS X (.Expr (.Constant (.str x) j pos) pos') tNext := fun _ s σ H _ I h => wpAny_Expr (Calls.Constant_str (show SP X _ _ .next { s with toks := s.toks + 1 } from ⟨σ, H, I.tok _, h⟩)) I.quiet
def tDrop (te : TE) : TS := fun D σ H => te σ H fun _ H1 => D.nx σ H1
theorem ps_expr (he : PE X e te) (hs : swapsWith e none pos.line X.env = pure false := by rfl) : PS X (.Expr e pos) (tDrop te) := by
  intro pins s σ H D I h
  exact wpAny_Expr_any (thn (he pins s σ H _ I h) fun v s1 ⟨x, H1, I1, r1, q1⟩ => ⟨σ, H1, I1, q1⟩) I.quiet hs
def tRet (te : TE) : TS := fun D σ H => te σ H D.rt
theorem ps_ret (he : PE X e te) : PS X (.Return (some e) pos) (tRet te) := by
  intro pins s σ H D I h
  exact wpAny_Return_some (thn (he pins s σ H _ I h) fun v s1 ⟨x, H1, I1, r1, q1⟩ => ⟨x, σ, H1, I1, r1, q1⟩)
def tRetN : TS := fun D _ H => D.rt .non H
theorem ps_retN : PS X (.Return none pos) tRetN := fun _ _ σ H _ I h => wpAny_Return_none ⟨.non, σ, H, I, rfl, h⟩
def tIfS (c : TT) (t u : TS) : TS := fun D σ H => c σ H fun b H1 => if b = true then t D σ H1 else u D σ H1
theorem ps_if {c : Expr} {a b : List Stmt} {tc : TT} (hc : PT X c tc) (ha : PSs X a t) (hb : PSs X b u) : PS X (.If c a b pos) (tIfS tc t u) := by
  intro pins s σ H D I h
  refine wpAny_If (thn (hc pins s σ H _ I h) fun d s1 ⟨H1, I1, q1⟩ => ?_)
  cases d with
  | true => exact ha pins s1 σ H1 D I1 q1
  | false => exact hb pins s1 σ H1 D I1 q1
def tNever : TS := fun _ _ _ => False
theorem ps_never : PS X st tNever := fun _ _ _ _ _ _ h => h.elim
theorem pss_never {sts : List Stmt} : PSs X sts tNever := fun _ _ _ _ _ _ h => h.elim
end
abbrev TG := V → St → Hp → (St → Hp → Prop) → Prop
abbrev TGs := List V → St → Hp → (St → Hp → Prop) → Prop
def PG (X : Cx) (target : Expr) (t : TG) : Prop :=
  ∀ (pins : List (Addr × Obj)) (s : Shared) (σ : St) (H : Hp) (v : V) (u : Value) (Q : St → Hp → Prop), Inv X pins σ H s → RelV v u → t v σ H Q →
    wpAny (model X.prog X.w) X.A (assign target X.env u) (fun _ s' => ∃ σ' H', Inv X pins σ' H' s' ∧ Q σ' H') X.xe s
def PGs (X : Cx) (ts : List Expr) (t : TGs) : Prop :=
  ∀ (pins : List (Addr × Obj)) (s : Shared) (σ : St) (H : Hp) (vs : List V) (us : List Value) (Q : St → Hp → Prop), Inv X pins σ H s → Vals vs us → t vs σ H Q →
    wpAny (model X.prog X.w) X.A (assignInOrder ((assignEach ts X.env).map (·.2)) us) (fun _ s' => ∃ σ' H', Inv X pins σ' H' s' ∧ Q σ' H') X.xe s
abbrev TSet := V → V → V → Hp → (Hp → Prop) → Prop
def PSet (X : Cx) (t : TSet) : Prop :=
  ∀ (pins : List (Addr × Obj)) (s : Shared) (σ : St) (H : Hp) (o i v : V) (ov iv u : Value) (Q : Hp → Prop), Inv X pins σ H s → RelV o ov → RelV i iv → RelV v u → t o i v H Q →
    wpAny (model X.prog X.w) X.A (setItem ov iv u) (fun _ s' => ∃ H', Inv X pins σ H' s' ∧ Q H') X.xe s
abbrev TIp := V → V → Hp → VK → Prop
def PIp (X : Cx) (op : Operator) (t : TIp) : Prop :=
  ∀ (pins : List (Addr × Obj)) (s : Shared) (σ : St) (H : Hp) (x y : V) (v u : Value) (Q : VK), Inv X pins σ H s → RelV x v → RelV y u → t x y H Q →
    wpAny (model X.prog X.w) X.A (inplaceOp op v u) (EP X pins σ Q) X.xe s
section
variable {X : Cx} {pos : Pos}
def gName (i : Nat) : TG := fun v σ H Q => Q (σ.set i (some v)) H
theorem pg_name {i : Nat} {x : Str} (hN : X.N.Nodup) (hi : X.N[i]? = some x) (hx : Loc X.env.scope x) (hf : X.fn x = true ∨ X.env.scope.names.lookup x = some .local := by first | exact .inl rfl | exact .inr rfl | assumption) : PG X (.Name x pos) (gName i) := by
  intro pins s σ H v u Q I r h
  exact wpAny_assign_Name (store_ok I hN hi hx r (fun s' I' => ⟨_, H, I', h⟩) hf)
def gNil : TGs := fun vs σ H Q => vs = [] ∧ Q σ H
def gCons (t : TG) (u : TGs) : TGs := fun vs σ H Q => ∃ v r, vs = v :: r ∧ t v σ H fun σ' H' => u r σ' H' Q
theorem pgs_nil : PGs X [] gNil := by
  intro pins s σ H vs us Q I r h
  obtain ⟨e, h⟩ := h
  subst e
  cases r
  exact assignInOrder_nil ⟨σ, H, I, h⟩
theorem pgs_cons {e : Expr} {es : List Expr} {t : TG} {u : TGs} (h1 : PG X e t) (h2 : PGs X es u)
    (hs : (assignEach (e :: es) X.env).map (·.2) = assign e X.env :: (assignEach es X.env).map (·.2) := by rfl) : PGs X (e :: es) (gCons t u) := by
  intro pins s σ H vs us Q I r h
  obtain ⟨v, vr, e1, h⟩ := h
  subst e1
  cases r with
  | cons r rr =>
    rw [hs]
    refine assignInOrder_cons (thn (h1 pins s σ H _ _ _ I r h) fun _ s1 ⟨σ1, H1, I1, q1⟩ => ?_)
    exact h2 pins s1 σ1 H1 _ _ Q I1 rr q1
def gTup (K : PySem.W.Frag) (n : Nat) (t : TGs) : TG := fun v σ H Q => ∃ a xs, v = .ref a ∧ SqT K H a xs ∧ xs.length = n ∧ t xs σ H Q
theorem pg_tup {es : List Expr} {k : Nat} {t : TGs} {n : Nat} (hc : X.calm = true) (h : PGs X es t)
    (hn : (assignEach es X.env).length = n := by rfl) (hst : (assignEach es X.env).findIdx? (·.1) = none := by rfl) : PG X (.Tuple es k pos) (gTup X.K n t) := by
  intro pins s σ H v u Q I r hw
  obtain ⟨a, xs, e1, hq, hl, hw⟩ := hw
  subst e1
  cases r
  obtain ⟨its, rv, ht, hz⟩ := I.tuple hq
  refine assign_Tuple_tuple (I.ok.hd hc) ht (by simp [hn, ← hl, rv.length]) hst fun h' hx => ?_
  have I1 : Inv X pins σ H { s with heap := h' } := I.kept (t' := s.toks) fun b o e => hx b o (Nat.ne_of_lt (Heap.lt_size e)) e
  exact h pins _ σ H xs _ Q I1 (by simpa using rv) hw
def gSub (to ti : TE) (t : TSet) : TG := fun v σ H Q => to σ H fun o H1 => ti σ H1 fun i H2 => t o i v H2 fun H3 => Q σ H3
theorem pg_sub {o i : Expr} {to ti : TE} {t : TSet} (ho : PE X o to) (hi : PE X i ti) (hs : PSet X t)
    (ha : ∀ v, assign (.Subscript o i pos) X.env v = (do
      let ov ← holding [v] (eval o X.env)
      let iv ← holding [v, ov] (eval i X.env)
      standAt pos
      holding [v, ov, iv] (setItem ov iv v)
      release [v, ov, iv] []) := by intro _; rfl) : PG X (.Subscript o i pos) (gSub to ti t) := by
  intro pins s σ H v u Q I r h
  rw [ha]
  refine wpAny_bind (wpAny_holding (thn (ho pins s σ H _ I h) fun ov s1 ⟨x, H1, I1, r1, q1⟩ => ?_))
  refine wpAny_bind (wpAny_holding (thn (hi pins s1 σ H1 _ I1 q1) fun iv s2 ⟨y, H2, I2, r2, q2⟩ => ?_))
  refine wpAny_bind (wpAny_standAt (wpAny_bind (wpAny_holding (thn (hs pins s2 σ H2 x y v ov iv u _ I2 r1 r2 r q2) fun _ s3 ⟨H3, I3, q3⟩ => ?_))))
  exact wpAny_release ⟨σ, H3, I3, q3⟩
def tAsg (te : TE) (g : TG) : TS := fun D σ H => te σ H fun x H1 => g x σ H1 D.nx
theorem ps_asg {tg e : Expr} {te : TE} {g : TG} (he : PE X e te) (hg : PG X tg g) (hs : swapsWithSole [tg] e pos.line X.env = pure false := by rfl) (hw : swappedStores [tg] e X.env = pure none := by rfl)
    (h1 : (assignEach [tg] X.env).map (·.2) = [assign tg X.env] := by rfl) : PS X (.Assign [tg] e pos) (tAsg te g) := by
  intro pins s σ H D I h
  refine wpAny_Assign_stores (thn (he pins s σ H _ I h) fun v s1 ⟨x, H1, I1, r1, q1⟩ => ?_) hs hw
  rw [h1]
  exact thn (hg pins s1 σ H1 x v _ I1 r1 q1) fun _ s2 q => q
theorem ps_set {i : Nat} {x : Str} {e : Expr} {te : TE} {pos' : Pos} (hN : X.N.Nodup) (hi : X.N[i]? = some x) (hx : Loc X.env.scope x) (he : PE X e te) (hs : swapsWith e (some (.Name x pos')) pos.line X.env = pure false := by rfl) (hf : X.fn x = true ∨ X.env.scope.names.lookup x = some .local := by first | exact .inl rfl | exact .inr rfl | assumption) :
    PS X (.Assign [.Name x pos'] e pos) (tAsg te (gName i)) := by
  intro pins s σ H D I h
  refine wpAny_Assign_Name (thn (he pins s σ H _ I h) fun v s1 ⟨y, H1, I1, r1, q1⟩ => ?_) hs
  exact store_ok I1 hN hi hx r1 (fun s2 I2 => ⟨_, H1, I2, q1⟩) hf
def tPar (i j : Nat) (ta : TA) : TS := fun D σ H => ta σ H fun vs H1 => ∃ v w, vs = [v, w] ∧ D.nx ((σ.set i (some v)).set j (some w)) H1
theorem ps_par {i j : Nat} {x y : Str} {a b : Expr} {ta : TA} {px py pt : Pos} {kt k2 pt2} (hc : X.calm = true) (hN : X.N.Nodup) (hi : X.N[i]? = some x) (hj : X.N[j]? = some y) (hij : i ≠ j)
    (hx : X.env.scope.names.lookup x = some .local) (hy : X.env.scope.names.lookup y = some .local) (ha : PA X [a, b] ta)
    (hw : swappedStores [.Tuple [.Name x px, .Name y py] kt pt] (.Tuple [a, b] k2 pt2) X.env = pure (some [x, y]))
    (hs : swapsWithSole [.Tuple [.Name x px, .Name y py] kt pt] (.Tuple [a, b] k2 pt2) pos.line X.env = pure false := by rfl) :
    PS X (.Assign [.Tuple [.Name x px, .Name y py] kt pt] (.Tuple [a, b] k2 pt2) pos) (tPar i j ta) := by
  intro pins s σ H D I h
  rw [exec_Assign_arm]
  refine wpAny_bind (wpAny_standAt ?_)
  rw [hs]
  refine wpAny_bind (wpAny_pure ?_)
  rw [if_neg (by decide)]
  refine wpAny_bind (Tuple_ (thn (ha _ pins s σ H _ I h) fun us s1 ⟨vs, H1, I1, r1, q1⟩ => ?_))
  obtain ⟨v, w, e1, q1⟩ := q1
  subst e1
  obtain ⟨u1, u2, rfl, rv, rw'⟩ : ∃ u1 u2, us = [u1, u2] ∧ RelV v u1 ∧ RelV w u2 := by
    cases r1 with
    | cons p q =>
      cases q with
      | cons p' q' =>
        cases q'
        exact ⟨_, _, rfl, p, p'⟩
  refine wpAny_newObj_type ?_ (by show 2 ≤ sizeLine; decide)
  have I2 : Inv X pins σ H1 { s1 with heap := s1.heap.push { cls := .type "tuple", data := .seq [u1, u2].toArray } } := I1.kept (t' := s1.toks) fun b o e => Heap.get?_push_of_some _ e
  rw [hw]
  refine wpAny_bind (wpAny_pure ?_)
  show wpAny (model X.prog X.w) X.A (do rule "assign.swapped-stores"; let items ← unpackItems (.ref s1.heap.objs.size) 2 none; assignInOrder [fun v => bindName X.env y v, fun v => bindName X.env x v] items.reverse; pure Flow.next) _ _ _
  refine wpAny_bind (wpAny_rule (wpAny_bind (unpackItems_tuple (items := #[u1, u2]) (I.ok.hd hc) (IsTup.new s1.heap _) fun h' hx' => ?_)))
  have I3 := I2.kept (h' := h') (t' := s1.toks) fun b o e => hx' b o (Nat.ne_of_lt (Heap.lt_size e)) e
  show wpAny _ _ (assignInOrder [fun v => bindName X.env y v, fun v => bindName X.env x v] [u2, u1] >>= fun _ => pure Flow.next) _ _ _
  refine wpAny_bind (assignInOrder_cons (wpAny_bindName (store_ok I3 hN hj (.inl hy) rw' (fun s2 I4 => ?_) (.inr hy))))
  refine assignInOrder_cons (wpAny_bindName (store_ok I4 hN hi (.inl hx) rv (fun s3 I5 => assignInOrder_nil (wpAny_pure ?_)) (.inr hx)))
  rw [List.set_comm _ _ (Ne.symm hij)] at I5
  exact ⟨_, H1, I5, q1⟩
def tAug (i : Nat) (te : TE) (ti : TIp) : TS := fun D σ H => ∃ x, σ[i]? = some (some x) ∧ te σ H fun y H1 => ti x y H1 fun z H2 => D.nx (σ.set i (some z)) H2
theorem ps_aug {i : Nat} {x : Str} {e : Expr} {te : TE} {op : Operator} {ti : TIp} {pos' : Pos} (hN : X.N.Nodup) (hi : X.N[i]? = some x) (hx : Loc X.env.scope x) (he : PE X e te) (ho : PIp X op ti) (hf : X.fn x = true ∨ X.env.scope.names.lookup x = some .local := by first | exact .inl rfl | exact .inr rfl | assumption) :
    PS X (.AugAssign (.Name x pos') op e pos) (tAug i te ti) := by
  intro pins s σ H D I h
  obtain ⟨v, e1, h⟩ := h
  obtain ⟨m, hn, hl⟩ := I.loc
  have vis : Vis X.env.scope x := by rcases hx with k | k; exact .inl k; exact .inr (.inl k)
  obtain ⟨u, r, l⟩ := hl i x v hi e1 vis
  refine wpAny_AugAssign_Name ?_
  have go : wpAny (model X.prog X.w) X.A (eval e X.env) (fun w s₂ => wpAny (model X.prog X.w) X.A (inplaceOp op u w) (fun r s₃ => wpAny (model X.prog X.w) X.A (storeName X.env x r) (fun _ => SP X pins D .next) X.xe s₃) X.xe s₂) X.xe s := by
    refine thn (he pins s σ H _ I h) fun w s1 ⟨y, H1, I1, r1, q1⟩ => ?_
    refine thn (ho pins s1 σ H1 v y u w _ I1 r r1 q1) fun z s2 ⟨zv, H2, I2, r2, q2⟩ => ?_
    exact store_ok I2 hN hi hx r2 (fun s3 I3 => ⟨_, H2, I3, q2⟩) hf
  rcases l with ⟨hk, hm⟩ | ⟨hk, c, hc, hcell⟩
  · exact wpAny_loadName_local I.ok.kind hk hn hm go
  · rcases hk with hk | hk
    · exact wpAny_loadName_cell I.ok.kind hk hc hcell go
    · rcases hx with k | k
      · have : X.env.scope.names.lookup x = some .free := hk
        rw [k] at this; cases this
      · have : X.env.scope.names.lookup x = some .free := hk
        rw [k] at this; cases this
def tAugS (to ti te : TE) (tget : V → V → Hp → VK → Prop) (tip : TIp) (tset : TSet) : TS := fun D σ H => to σ H fun o H1 => ti σ H1 fun i H2 => tget o i H2 fun x H3 => te σ H3 fun y H4 => tip x y H4 fun z H5 => tset o i z H5 fun H6 => D.nx σ H6
def PGet (X : Cx) (t : V → V → Hp → VK → Prop) : Prop :=
  ∀ (pins : List (Addr × Obj)) (s : Shared) (σ : St) (H : Hp) (o i : V) (ov iv : Value) (Q : VK), Inv X pins σ H s → RelV o ov → RelV i iv → t o i H Q →
    wpAny (model X.prog X.w) X.A (getItem ov iv) (EP X pins σ Q) X.xe s
theorem ps_augS {o i e : Expr} {to ti te : TE} {tget : V → V → Hp → VK → Prop} {tip : TIp} {tset : TSet} {op : Operator} {tpos : Pos} (ho : PE X o to) (hi : PE X i ti) (hg : PGet X tget) (he : PE X e te) (hp : PIp X op tip) (hs : PSet X tset)
    (ha : ∀ ov iv new, augStore i ov iv new = (do holding [new, ov, iv] (setItem ov iv new); release [new, ov, iv] []; pure .next) := by intros; rfl) : PS X (.AugAssign (.Subscript o i tpos) op e pos) (tAugS to ti te tget tip tset) := by
  intro pins s σ H D I h
  refine wpAny_AugAssign_SubscriptAny (thn (ho pins s σ H _ I h) fun ov s1 ⟨x1, H1, I1, r1, q1⟩ => ?_) ha
  refine thn (hi pins s1 σ H1 _ I1 q1) fun iv s2 ⟨x2, H2, I2, r2, q2⟩ => ?_
  refine thn (hg pins s2 σ H2 x1 x2 ov iv _ I2 r1 r2 q2) fun old s3 ⟨x3, H3, I3, r3, q3⟩ => ?_
  refine thn (he pins s3 σ H3 _ I3 q3) fun v s4 ⟨x4, H4, I4, r4, q4⟩ => ?_
  refine thn (hp pins s4 σ H4 x3 x4 old v _ I4 r3 r4 q4) fun new s5 ⟨x5, H5, I5, r5, q5⟩ => ?_
  exact thn (hs pins s5 σ H5 x1 x2 x5 ov iv new _ I5 r1 r2 r5 q5) fun _ s6 ⟨H6, I6, q6⟩ => ⟨σ, H6, I6, q6⟩
def ipI (f : Int → Int → Int) : TIp := fun x y H Q => ∃ i j, x = .int i ∧ y = .int j ∧ Q (.int (f i j)) H
theorem ip_add : PIp X .Add (ipI fun i j => i + j) := by
  intro pins s σ H x y v u Q I r1 r2 h
  obtain ⟨i, j, e1, e2, q⟩ := h
  subst e1; subst e2
  obtain ⟨t, rfl⟩ := r1
  obtain ⟨t', rfl⟩ := r2
  exact iadd_int ⟨.int _, H, I.tok _, ⟨_, rfl⟩, q⟩
theorem ip_sub : PIp X .Sub (ipI fun i j => i - j) := by
  intro pins s σ H x y v u Q I r1 r2 h
  obtain ⟨i, j, e1, e2, q⟩ := h
  subst e1; subst e2
  obtain ⟨t, rfl⟩ := r1
  obtain ⟨t', rfl⟩ := r2
  exact isub_int ⟨.int _, H, I.tok _, ⟨_, rfl⟩, q⟩
end
section
variable {X : Cx} {pos : Pos}
def tWhile (c : TT) (tb : TS) : TS := fun D σ H => ∃ W : Nat → St → Hp → Prop, (∃ m, W m σ H) ∧ ∀ m σ H, W m σ H →
  c σ H fun b H1 => if b = true then ∃ N : St → Hp → Prop, (∀ σ' H', N σ' H' → ∃ m', m' < m ∧ W m' σ' H') ∧ tb { D with nx := N, ct := N, bk := D.nx } σ H1 else D.nx σ H1
theorem ps_while {c : Expr} {body : List Stmt} {tc : TT} {tb : TS} (hp : PassesOwn (model X.prog X.w) X.A X.env X.xe) (hc : PT X c tc) (hb : PSs X body tb) : PS X (.While c body [] pos) (tWhile tc tb) := by
  intro pins s σ H D I h
  obtain ⟨W, ⟨m0, w0⟩, turn⟩ := h
  refine wpAny_While (codeAny_whileLoop (fun n s' => ∃ σ' H', Inv X pins σ' H' s' ∧ W n σ' H') ?_ m0 ⟨σ, H, I, w0⟩)
  rintro n s1 ⟨σ1, H1, I1, w1⟩
  refine wpAny_passesOwn hp (thn (hc pins s1 σ1 H1 _ I1 (turn n σ1 H1 w1)) fun b s2 ⟨H2, I2, q2⟩ => ?_)
  cases b with
  | true =>
    obtain ⟨N, hN, q2⟩ := q2
    rw [if_pos rfl]
    refine wpAny_passesOwn hp (thn (hb pins s2 σ1 H2 _ I2 q2) fun f s3 q3 => ?_)
    cases f with
    | next =>
      obtain ⟨σ3, H3, I3, n3⟩ := q3
      obtain ⟨m', hm, w3⟩ := hN σ3 H3 n3
      exact ⟨m', hm, σ3, H3, I3, w3⟩
    | cont =>
      obtain ⟨σ3, H3, I3, n3⟩ := q3
      obtain ⟨m', hm, w3⟩ := hN σ3 H3 n3
      exact ⟨m', hm, σ3, H3, I3, w3⟩
    | brk => exact q3
    | ret v => exact q3
  | false =>
    rw [if_neg Bool.false_ne_true]
    exact wpAny_execs_nil ⟨σ1, H2, I2, q2⟩
end
structure It where
  go : Nat → Hp → Prop
  yld : Nat → Hp → V → Hp → Prop
  stop : Nat → Hp → Prop
def FpOk (X : Cx) (pins : List (Addr × Obj)) (H : Hp) (b : Addr) : Prop :=
  H b = none ∧ b ≠ X.env.locals ∧ b ∉ X.fs ∧ (b ∈ X.ex ∨ X.s₀.heap.objs.size ≤ b) ∧ (∀ x c, X.env.cells.lookup x = some c → c ≠ b) ∧ ∀ p ∈ X.pn ++ pins, p.1 ≠ b
theorem Inv.fpOk {X : Cx} {pins : List (Addr × Obj)} {σ : St} {H H' : Hp} {s : Shared} {b : Addr} (I : Inv X pins σ H s) (hb : s.heap.objs.size ≤ b) (hn : H' b = none) : FpOk X pins H' b := by
  refine ⟨hn, Nat.ne_of_gt (Nat.lt_of_lt_of_le I.lt hb), I.nofs hb, .inr (Nat.le_trans I.sz hb), fun x c e z => ?_, fun p hp z => ?_⟩
  · obtain ⟨v, q⟩ := I.cell x c e
    exact absurd (Nat.lt_of_lt_of_le q.lt (by rw [z]; exact hb)) (Nat.lt_irrefl _)
  · exact absurd (Nat.lt_of_lt_of_le (Heap.lt_size (I.pin p hp).1) (by rw [z]; exact hb)) (Nat.lt_irrefl _)
structure Turn (P : Program) (w : World) (K : PySem.W.Frag) (tg : Expr) (J : It) (fp : List Addr) (it : Addr) (tn : Nat → Heap → Prop) : Prop where
  mem : it ∈ fp
  obj : ∀ i h, tn i h → ∀ b ∈ fp, ∃ o, h.get? b = some o ∧ ∀ v, o.data ≠ .cell v
  keep : ∀ i h h', tn i h → (∀ b ∈ fp, ∀ o, h.get? b = some o → h'.get? b = some o) → tn i h'
  item : ∀ (X : Cx), X.prog = P → X.w = w → X.K = K → X.calm = true → ∀ (i : Nat) (pins : List (Addr × Obj)) (s : Shared) (σ : St) (H : Hp) (E : Value → Shared → Prop), Inv X pins σ H s → (∀ b ∈ fp, FpOk X pins H b) → tn i s.heap → J.go i H →
    wpAny (model P w) X.A (pyNext (.ref it)) (fun r s1 => ∃ u, r = some u ∧
      wpAny (model P w) X.A (letOwnedTupleGo tg (.ref it) u) (fun _ s2 => ∃ x H', Inv X pins σ H' s2 ∧ RelV x u ∧ J.yld i H x H' ∧ tn (i + 1) s2.heap ∧ ∀ b ∈ fp, H' b = none) E s1) E s
  done : ∀ (X : Cx), X.prog = P → X.w = w → X.K = K → X.calm = true → ∀ (i : Nat) (pins : List (Addr × Obj)) (s : Shared) (σ : St) (H : Hp) (E : Value → Shared → Prop), Inv X pins σ H s → (∀ b ∈ fp, FpOk X pins H b) → tn i s.heap → J.stop i H →
    wpAny (model P w) X.A (pyNext (.ref it)) (fun r s1 => r = none ∧ Inv X pins σ H s1) E s
  self : ∀ (A : Around) (i : Nat) (s : Shared) (Q : Value → Shared → Prop) (E : Value → Shared → Prop), tn i s.heap → Q (.ref it) s → wpAny (model P w) A (pyIter (.ref it)) Q E s
abbrev TI := St → Hp → (It → Hp → Prop) → Prop
def PIE (X : Cx) (pins : List (Addr × Obj)) (σ : St) (tg : Expr) (R : It → Hp → Prop) (itv : Value) (s2 : Shared) : Prop :=
  ∃ (it : Addr) (fp : List Addr) (tn : Nat → Heap → Prop) (J : It) (H' : Hp), itv = .ref it ∧ Inv X pins σ H' s2 ∧ Turn X.prog X.w X.K tg J fp it tn ∧ tn 0 s2.heap ∧ (∀ b ∈ fp, FpOk X pins H' b) ∧ R J H'
def PI (X : Cx) (tg iter : Expr) (wi : TI) : Prop :=
  ∀ (pins : List (Addr × Obj)) (s : Shared) (σ : St) (H : Hp) (R : It → Hp → Prop), Inv X pins σ H s → wi σ H R →
    wpAny (model X.prog X.w) X.A (eval iter X.env) (fun v s1 => wpAny (model X.prog X.w) X.A (pyIter v) (PIE X pins σ tg R) X.xe s1) X.xe s
theorem go_of {M : Model} {A : Around} {E : Value → Shared → Prop} {s : Shared} {tg : Expr} {it : Addr} {u : Value} {o : Obj} {n : String} {vs : Array Value} {Q : Unit → Shared → Prop} (ho : s.heap.get? it = some o) (hc : o.cls = .type n) (hd : o.data = .fields vs)
    (hn : ["enumerate", "zip", "dict_itemiterator", "dict_reverseitemiterator", "odict_iterator", "itertools.zip_longest", "itertools.pairwise"].contains n = false) (hQ : Q () s) : wpAny M A (letOwnedTupleGo tg (.ref it) u) Q E s := by
  unfold letOwnedTupleGo
  cases tg <;> first
    | exact wpAny_pure hQ
    | (cases u <;> first
        | exact wpAny_pure hQ
        | (refine wpAny_bind (wpAny_load ho ?_)
           rw [hc, hd]
           show wpAny M A (if (["enumerate", "zip", "dict_itemiterator", "dict_reverseitemiterator", "odict_iterator", "itertools.zip_longest", "itertools.pairwise"].contains n && vs[0]? == some (rawInt _)) = true then _ else _) Q E s
           rw [if_neg (by intro h; rw [hn, Bool.false_and] at h; cases h)]
           exact wpAny_pure hQ))
def Itl (K : PySem.W.Frag) (a : Addr) : It :=
  ⟨fun i H => ∃ xs x, SqL K H a xs ∧ xs[i]? = some x, fun i H x H' => H' = H ∧ ∀ xs, SqL K H a xs → xs[i]? = some x, fun i H => ∃ xs, SqL K H a xs ∧ xs.length ≤ i⟩
def Itt (K : PySem.W.Frag) (a : Addr) : It :=
  ⟨fun i H => ∃ xs x, SqT K H a xs ∧ xs[i]? = some x, fun i H x H' => H' = H ∧ ∀ xs, SqT K H a xs → xs[i]? = some x, fun i H => ∃ xs, SqT K H a xs ∧ xs.length ≤ i⟩
def Itr (lo : Int) (n : Nat) : It := ⟨fun i _ => i < n, fun i H x H' => H' = H ∧ x = .int (lo + i), fun i _ => n ≤ i⟩
theorem turn_list {P : Program} {w : World} {K : PySem.W.Frag} {tg : Expr} (a it : Addr) : Turn P w K tg (Itl K a) [it] it (fun i h => h.IsListIter it a i) where
  mem := by simp
  obj := fun i h st b hb => by
    have e : b = it := by simpa using hb
    subst e
    obtain ⟨o, e, c, d⟩ := st
    exact ⟨o, e, fun v z => by rw [d] at z; cases z⟩
  keep := fun i h h' st k => st.at fun o e => k it (by simp) o e
  item := by
    intro X hP hw hK hc i pins s σ H E I hf st hg
    subst hP hw hK
    obtain ⟨xs, x, hq, hx⟩ := hg
    obtain ⟨its, rv, p, hz⟩ := I.list hq
    obtain ⟨u, hu, ru⟩ := rv.get hx
    obtain ⟨f0, f1, f2, f3, f4, f5⟩ := hf it (by simp)
    refine wpAny_pyNext_list_item st p.isList (x := u) (by simpa using hu) fun h' st' sb => ?_
    have I1 : Inv X pins σ H { s with heap := h' } := I.turned (t' := s.toks) (fun b o hb e => (sb.2 b hb).trans e) f0 f1 f3 f4 f5
    obtain ⟨o, e, c, d⟩ := id st'
    exact ⟨u, rfl, go_of (s := { s with heap := h' }) e c d (by decide) ⟨x, H, I1, ru, ⟨rfl, fun ys hy => by rw [I.list_inj hy hq]; exact hx⟩, st', fun b hb => (hf b hb).1⟩⟩
  done := by
    intro X hP hw hK hc i pins s σ H E I hf st hg
    subst hP hw hK
    obtain ⟨xs, hq, hx⟩ := hg
    obtain ⟨its, rv, p, hz⟩ := I.list hq
    obtain ⟨f0, f1, f2, f3, f4, f5⟩ := hf it (by simp)
    have hl := rv.length
    exact wpAny_pyNext_list_end (I.ok.hd hc) st p.isList (by simp; omega) fun h' eb => ⟨rfl, I.turned (t' := s.toks) (fun b o hb e => eb b o hb e) f0 f1 f3 f4 f5⟩
  self := fun _ _ _ _ _ st h => wpAny_pyIter_listiter st h
theorem turn_tuple {P : Program} {w : World} {K : PySem.W.Frag} {tg : Expr} (a it : Addr) : Turn P w K tg (Itt K a) [it] it (fun i h => h.IsTupleIter it a i) where
  mem := by simp
  obj := fun i h st b hb => by
    have e : b = it := by simpa using hb
    subst e
    obtain ⟨o, e, c, d⟩ := st
    exact ⟨o, e, fun v z => by rw [d] at z; cases z⟩
  keep := fun i h h' st k => st.at fun o e => k it (by simp) o e
  item := by
    intro X hP hw hK hc i pins s σ H E I hf st hg
    subst hP hw hK
    obtain ⟨xs, x, hq, hx⟩ := hg
    obtain ⟨its, rv, p, hz⟩ := I.tuple hq
    obtain ⟨u, hu, ru⟩ := rv.get hx
    obtain ⟨f0, f1, f2, f3, f4, f5⟩ := hf it (by simp)
    refine wpAny_pyNext_tuple_item st (show s.heap.IsTuple a its.toArray from p) (x := u) (by simpa using hu) fun h' st' sb => ?_
    have I1 : Inv X pins σ H { s with heap := h' } := I.turned (t' := s.toks) (fun b o hb e => (sb.2 b hb).trans e) f0 f1 f3 f4 f5
    obtain ⟨o, e, c, d⟩ := id st'
    exact ⟨u, rfl, go_of (s := { s with heap := h' }) e c d (by decide) ⟨x, H, I1, ru, ⟨rfl, fun ys hy => by rw [I.tuple_inj hy hq]; exact hx⟩, st', fun b hb => (hf b hb).1⟩⟩
  done := by
    intro X hP hw hK hc i pins s σ H E I hf st hg
    subst hP hw hK
    obtain ⟨xs, hq, hx⟩ := hg
    obtain ⟨its, rv, p, hz⟩ := I.tuple hq
    obtain ⟨f0, f1, f2, f3, f4, f5⟩ := hf it (by simp)
    have hl := rv.length
    exact wpAny_pyNext_tuple_end (I.ok.hd hc) st (show s.heap.IsTuple a its.toArray from p) (by simp; omega) fun h' eb => ⟨rfl, I.turned (t' := s.toks) (fun b o hb e => eb b o hb e) f0 f1 f3 f4 f5⟩
  self := fun _ _ _ _ _ st h => wpAny_pyIter_tupleiter st h
theorem turn_range {P : Program} {w : World} {K : PySem.W.Frag} {tg : Expr} (it : Addr) (lo : Int) (n : Nat) : Turn P w K tg (Itr lo n) [it] it (fun i h => IsRangeIter h it (lo + (i : Nat) * 1) ((n : Int) - (i : Nat)) 1) where
  mem := by simp
  obj := fun i h st b hb => by
    have e : b = it := by simpa using hb
    subst e
    exact ⟨_, st, fun v z => by
      have z' : Data.fields _ = Data.cell v := z
      cases z'⟩
  keep := fun i h h' st k => k it (by simp) _ st
  item := by
    intro X hP hw hK hc i pins s σ H E I hf st hg
    subst hP hw hK
    obtain ⟨f0, f1, f2, f3, f4, f5⟩ := hf it (by simp)
    have W := Walks.range (prog := X.prog) (w := X.w) (I.ok.hd hc) it lo 1 n
    refine W.item i s _ _ hg st fun v h' tk hv st' kk => ?_
    obtain ⟨t, rfl⟩ := hv
    have I1 : Inv X pins σ H { s with heap := h', toks := tk } := I.turned (fun b o hb e => kk b o (by simpa using hb) e) f0 f1 f3 f4 f5
    refine ⟨_, rfl, go_of (s := { s with heap := h', toks := tk }) (n := "range_iterator") st' rfl rfl (by decide) ⟨.int (lo + i), H, I1, ⟨t, ?_⟩, ⟨rfl, rfl⟩, st', fun b hb => (hf b hb).1⟩⟩
    rw [Int.mul_one]
  done := by
    intro X hP hw hK hc i pins s σ H E I hf st hg
    subst hP hw hK
    obtain ⟨f0, f1, f2, f3, f4, f5⟩ := hf it (by simp)
    exact wpAny_pyNext_range_end (I.ok.hd hc) st (by have : n ≤ i := hg; omega) fun h' eb => ⟨rfl, I.turned (t' := s.toks) (fun b o hb e => eb b o hb e) f0 f1 f3 f4 f5⟩
  self := fun _ _ _ _ _ st h => wpAny_pyIter_rangeiter st h
end L2
namespace L2
open PySem PySem.Spec PyProof.Rows
section
variable {X : Cx} {tg : Expr}
def iList (K : PySem.W.Frag) (tl : TE) : TI := fun σ H R => tl σ H fun x H1 => ∃ a, x = .ref a ∧ (∃ xs, SqL K H1 a xs) ∧ R (Itl K a) H1
def iTup (K : PySem.W.Frag) (tl : TE) : TI := fun σ H R => tl σ H fun x H1 => ∃ a, x = .ref a ∧ (∃ xs, SqT K H1 a xs) ∧ R (Itt K a) H1
theorem pi_list {l : Expr} {tl : TE} (hl : PE X l tl) : PI X tg l (iList X.K tl) := by
  intro pins s σ H R I h
  refine thn (hl pins s σ H _ I h) fun v s1 ⟨x, H1, I1, r1, q1⟩ => ?_
  obtain ⟨a, e, ⟨xs, hq⟩, q⟩ := q1
  subst e
  cases r1
  obtain ⟨its, rv, p, hz⟩ := I1.list hq
  refine wpAny_pyIter_list p.isList ?_
  refine ⟨s1.heap.objs.size, [s1.heap.objs.size], _, _, H1, rfl, I1.kept (t' := s1.toks) fun b o e => Heap.get?_push_of_some _ e, turn_list a _, ⟨_, Heap.get?_push_size _ rfl, rfl, rfl⟩, fun b hb => ?_, q⟩
  have e : b = s1.heap.objs.size := by simpa using hb
  subst e
  exact I1.fpOk (Nat.le_refl _) (I1.hok.fresh (Nat.le_refl _))
theorem pi_tup {l : Expr} {tl : TE} (hl : PE X l tl) : PI X tg l (iTup X.K tl) := by
  intro pins s σ H R I h
  refine thn (hl pins s σ H _ I h) fun v s1 ⟨x, H1, I1, r1, q1⟩ => ?_
  obtain ⟨a, e, ⟨xs, hq⟩, q⟩ := q1
  subst e
  cases r1
  obtain ⟨its, rv, p, hz⟩ := I1.tuple hq
  refine wpAny_pyIter_tuple (show s1.heap.IsTuple a its.toArray from p) ?_
  refine ⟨s1.heap.objs.size, [s1.heap.objs.size], _, _, H1, rfl, I1.kept (t' := s1.toks) fun b o e => Heap.get?_push_of_some _ e, turn_tuple a _, ⟨_, Heap.get?_push_size _ rfl, rfl, rfl⟩, fun b hb => ?_, q⟩
  have e : b = s1.heap.objs.size := by simpa using hb
  subst e
  exact I1.fpOk (Nat.le_refl _) (I1.hok.fresh (Nat.le_refl _))
theorem range_it {pins : List (Addr × Obj)} {σ : St} {H : Hp} {s : Shared} {R : It → Hp → Prop} {E : Value → Shared → Prop} {lo hi : Int} {t u v : Tok} {tk : Nat} (I : Inv X pins σ H s) (h1 : -(2 ^ 62) ≤ lo) (h2 : lo < 2 ^ 62) (h3 : -(2 ^ 62) ≤ hi) (h4 : hi < 2 ^ 62)
    (q : R (Itr lo (hi - lo).toNat) H) : wpAny (model X.prog X.w) X.A (pyIter (.ref s.heap.objs.size)) (PIE X pins σ tg R) E { s with heap := s.heap.push { cls := .type "range", data := .fields #[.int lo t, .int hi u, .int 1 v] }, toks := tk } := by
  refine wpAny_pyIter_range (IsRange.new ..) (small_one h1 h2 h3 h4) ?_
  have I1 : Inv X pins σ H { s with heap := s.heap.push { cls := .type "range", data := .fields #[.int lo t, .int hi u, .int 1 v] }, toks := tk } := I.kept fun b o e => Heap.get?_push_of_some _ e
  refine ⟨(s.heap.push { cls := .type "range", data := .fields #[.int lo t, .int hi u, .int 1 v] }).objs.size, [(s.heap.push { cls := .type "range", data := .fields #[.int lo t, .int hi u, .int 1 v] }).objs.size], _, _, H, rfl,
    I1.kept (t' := tk) fun b o e => Heap.get?_push_of_some _ e, turn_range _ lo (hi - lo).toNat, ?_, fun b hb => ?_, q⟩
  · have e1 : lo + ((0 : Nat) : Int) * 1 = lo := by simp
    have e2 : (((hi - lo).toNat : Nat) : Int) - ((0 : Nat) : Int) = Builtin.Range.rangeSize lo hi 1 := by rw [rangeSize_one]; split <;> omega
    show IsRangeIter _ _ (lo + ((0 : Nat) : Int) * 1) ((((hi - lo).toNat : Nat) : Int) - ((0 : Nat) : Int)) 1
    rw [e1, e2]
    exact Heap.get?_push_size _ rfl
  · have e : b = (s.heap.push { cls := .type "range", data := .fields #[.int lo t, .int hi u, .int 1 v] }).objs.size := by simpa using hb
    subst e
    exact I1.fpOk (Nat.le_refl _) (I1.hok.fresh (Nat.le_refl _))
def iRng1 (ta : TA) : TI := fun σ H R => ta σ H fun vs H1 => ∃ j : Int, vs = [.int j] ∧ -(2 ^ 62) ≤ j ∧ j < 2 ^ 62 ∧ R (Itr 0 j.toNat) H1
def iRng2 (ta : TA) : TI := fun σ H R => ta σ H fun vs H1 => ∃ i j : Int, vs = [.int i, .int j] ∧ (-(2 ^ 62) ≤ i ∧ i < 2 ^ 62 ∧ -(2 ^ 62) ≤ j ∧ j < 2 ^ 62) ∧ R (Itr i (j - i).toNat) H1
theorem pi_range1 {a : Expr} {ta : TA} {p pos : Pos} (hg : Gl X "range") (hm : X.mg "range" = none) (ha : PA X [a] ta) (hs : starEach [a] X.env = [(false, eval a X.env)] := by rfl) : PI X tg (.Call (.Name "range" p) [a] [] pos) (iRng1 ta) := by
  intro pins s σ H R I h
  refine Call_ (ld_blt I hg hm boot_range (PyProof.Rows.callWith_type1 (thn (ha pos pins s σ H _ I h) fun us s1 ⟨vs, H1, I1, r1, q1⟩ => ?_) hs rfl))
  obtain ⟨j, e, q1, q2, q⟩ := q1
  subst e
  cases r1 with
  | cons r rr =>
    cases rr
    obtain ⟨t, rfl⟩ := r
    exact call_range_1 (range_it I1 (by omega) (by omega) q1 q2 (by simpa using q))
theorem pi_range2 {a b : Expr} {ta : TA} {p pos : Pos} (hg : Gl X "range") (hm : X.mg "range" = none) (ha : PA X [a, b] ta) (hs : starEach [a, b] X.env = [(false, eval a X.env), (false, eval b X.env)] := by rfl) (hs2 : starEach [b] X.env = [(false, eval b X.env)] := by rfl) :
    PI X tg (.Call (.Name "range" p) [a, b] [] pos) (iRng2 ta) := by
  intro pins s σ H R I h
  refine Call_ (ld_blt I hg hm boot_range (PyProof.Rows.callWith_type1 (thn (ha pos pins s σ H _ I h) fun us s1 ⟨vs, H1, I1, r1, q1⟩ => ?_) (by rw [hs, hs2]) (by rw [hs2]; rfl)))
  obtain ⟨i, j, e, ⟨q1, q2, q3, q4⟩, q⟩ := q1
  subst e
  cases r1 with
  | cons r rr =>
    cases rr with
    | cons r' rr =>
      cases rr
      obtain ⟨t, rfl⟩ := r
      obtain ⟨t', rfl⟩ := r'
      exact call_range_2 (range_it I1 q1 q2 q3 q4 q)
def tFor (wi : TI) (g : TG) (tb : TS) : TS := fun D σ H => wi σ H fun J H1 => ∃ W : Nat → Nat → St → Hp → Prop, (∃ m, W 0 m σ H1) ∧ ∀ i m σ H, W i m σ H →
  (J.stop i H ∧ D.nx σ H) ∨ (J.go i H ∧ ∃ N : St → Hp → Prop, (∀ σ' H', N σ' H' → ∃ m', m' < m ∧ W (i + 1) m' σ' H') ∧ ∀ x H', J.yld i H x H' → g x σ H' fun σ2 H2 => tb { D with nx := N, ct := N, bk := D.nx } σ2 H2)
def pinsAt (fp : List Addr) (h : Heap) : List (Addr × Obj) := fp.filterMap fun b => (h.get? b).map fun o => (b, o)
theorem mem_pinsAt {fp : List Addr} {h : Heap} {b : Addr} {o : Obj} (hb : b ∈ fp) (e : h.get? b = some o) : (b, o) ∈ pinsAt fp h := List.mem_filterMap.mpr ⟨b, hb, by rw [e]; rfl⟩
theorem of_pinsAt {fp : List Addr} {h : Heap} {p : Addr × Obj} (hp : p ∈ pinsAt fp h) : p.1 ∈ fp ∧ h.get? p.1 = some p.2 := by
  obtain ⟨b, hb, e⟩ := List.mem_filterMap.mp hp
  cases q : h.get? b with
  | none => rw [q] at e; cases e
  | some o =>
    rw [q] at e
    have e' : (b, o) = p := Option.some.inj e
    subst e'
    exact ⟨hb, q⟩
theorem Inv.pinned {pins : List (Addr × Obj)} {σ : St} {H : Hp} {s : Shared} {fp : List Addr} (I : Inv X pins σ H s) (hf : ∀ b ∈ fp, FpOk X pins H b) (ho : ∀ b ∈ fp, ∃ o, s.heap.get? b = some o ∧ ∀ v, o.data ≠ .cell v) : Inv X (pins ++ pinsAt fp s.heap) σ H s :=
  I.pins_of fun p hp => (List.mem_append.mp hp).elim (fun z => I.pin p (List.mem_append_right _ z)) fun z => by
    obtain ⟨hb, e⟩ := of_pinsAt z
    obtain ⟨f0, f1, f2, _⟩ := hf p.1 hb
    obtain ⟨o, e', d⟩ := ho p.1 hb
    rw [e] at e'; cases e'
    exact ⟨e, f0, f1, f2, d⟩
theorem Inv.unpinned {pins pl : List (Addr × Obj)} {σ : St} {H : Hp} {s : Shared} (I : Inv X (pins ++ pl) σ H s) : Inv X pins σ H s := I.pins_of fun p hp => I.pin p (List.mem_append_right _ (List.mem_append_left _ hp))
theorem ps_for {iter : Expr} {body : List Stmt} {wi : TI} {g : TG} {tb : TS} {pos : Pos} (hp : PassesOwn (model X.prog X.w) X.A X.env X.xe) (hc : X.calm = true) (hi : PI X tg iter wi) (hg : PG X tg g) (hb : PSs X body tb)
    (hs : ∀ x, foldedSetIterable iter X.env x = pure x := by intro _; rfl) : PS X (.For tg iter body [] pos) (tFor wi g tb) := by
  intro pins s σ H D I h
  refine wpAny_For (thn (hi pins s σ H _ I h) fun v s1 h1 => thn h1 fun itv s2 h2 => ?_) hs
  obtain ⟨it, fp, tn, J, H2, e, I2, T, st2, f2, W, ⟨m0, w0⟩, turn⟩ := h2
  subst e
  -- what stays true of the iterator's objects through the loop
  have stat : ∀ {H' : Hp}, (∀ b ∈ fp, H' b = none) → ∀ b ∈ fp, FpOk X pins H' b := fun hn b hb => ⟨hn b hb, (f2 b hb).2⟩
  refine codeAny_forLoop_any (fun n s' => ∃ i σ' H', Inv X pins σ' H' s' ∧ tn i s'.heap ∧ (∀ b ∈ fp, H' b = none) ∧ W i n σ' H') ?_ m0 ⟨0, σ, H2, I2, st2, fun b hb => (f2 b hb).1, w0⟩
  rintro n s3 ⟨i, σ3, H3, I3, st3, fr3, w3⟩
  rcases turn i n σ3 H3 w3 with ⟨stop, qn⟩ | ⟨go, N, hN, step⟩
  · refine wpAny_passesOwn hp (thn (T.done X rfl rfl rfl hc i pins s3 σ3 H3 X.xe I3 (stat fr3) st3 stop) fun r s4 ⟨hr, I4⟩ => ?_)
    subst hr
    exact wpAny_execs_nil ⟨σ3, H3, I4, qn⟩
  · refine wpAny_passesOwn hp (thn (T.item X rfl rfl rfl hc i pins s3 σ3 H3 X.xe I3 (stat fr3) st3 go) fun r s4 ⟨u, hr, h4⟩ => ?_)
    subst hr
    refine wpAny_passesOwn hp (thn h4 fun _ s5 ⟨x, H5, I5, r5, y5, st5, fr5⟩ => ?_)
    have I5' := I5.pinned (stat fr5) (T.obj _ _ st5)
    refine wpAny_passesOwn hp (thn (hg _ s5 σ3 H5 x u _ I5' r5 (step x H5 y5)) fun _ s6 ⟨σ6, H6, I6, q6⟩ => ?_)
    refine wpAny_passesOwn hp (thn (hb _ s6 σ6 H6 _ I6 q6) fun f s7 q7 => ?_)
    have again : ∀ {σ7 : St} {H7 : Hp}, Inv X (pins ++ pinsAt fp s5.heap) σ7 H7 s7 → N σ7 H7 → ∃ m, m < n ∧ ∃ i σ' H', Inv X pins σ' H' s7 ∧ tn i s7.heap ∧ (∀ b ∈ fp, H' b = none) ∧ W i m σ' H' := fun {σ7 H7} I7 n7 => by
      obtain ⟨m', hm, w7⟩ := hN σ7 H7 n7
      refine ⟨m', hm, i + 1, σ7, H7, I7.unpinned, T.keep _ _ _ st5 fun b hb o e => (I7.pin (b, o) (List.mem_append_right _ (List.mem_append_right _ (mem_pinsAt hb e)))).1, fun b hb => ?_, w7⟩
      obtain ⟨o, e, d⟩ := T.obj _ _ st5 b hb
      exact (I7.pin (b, o) (List.mem_append_right _ (List.mem_append_right _ (mem_pinsAt hb e)))).2.1
    cases f with
    | next => obtain ⟨σ7, H7, I7, n7⟩ := q7; exact again I7 n7
    | cont => obtain ⟨σ7, H7, I7, n7⟩ := q7; exact again I7 n7
    | brk => obtain ⟨σ7, H7, I7, q7⟩ := q7; exact ⟨σ7, H7, I7.unpinned, q7⟩
    | ret v => obtain ⟨x7, σ7, H7, I7, r7, q7⟩ := q7; exact ⟨x7, σ7, H7, I7.unpinned, r7, q7⟩
end
theorem for_list {K : PySem.W.Frag} {a : Addr} {xs : List V} {g : TG} {tb : TS} {D : Ends} {σ : St} {H : Hp} (Pv : Nat → St → Hp → Prop) (h0 : Pv 0 σ H) (hl : ∀ i σ H, i ≤ xs.length → Pv i σ H → SqL K H a xs)
    (hs : ∀ i x σ H, xs[i]? = some x → Pv i σ H → g x σ H fun σ2 H2 => tb { D with nx := Pv (i + 1), ct := Pv (i + 1), bk := D.nx } σ2 H2) (hd : ∀ σ H, Pv xs.length σ H → D.nx σ H) :
    ∃ W : Nat → Nat → St → Hp → Prop, (∃ m, W 0 m σ H) ∧ ∀ i m σ H, W i m σ H →
      ((Itl K a).stop i H ∧ D.nx σ H) ∨ ((Itl K a).go i H ∧ ∃ N : St → Hp → Prop, (∀ σ' H', N σ' H' → ∃ m', m' < m ∧ W (i + 1) m' σ' H') ∧ ∀ x H', (Itl K a).yld i H x H' → g x σ H' fun σ2 H2 => tb { D with nx := N, ct := N, bk := D.nx } σ2 H2) := by
  refine ⟨fun i m σ H => m = xs.length - i ∧ i ≤ xs.length ∧ Pv i σ H, ⟨xs.length, by simp, Nat.zero_le _, h0⟩, ?_⟩
  rintro i m σ H ⟨rfl, hi, p⟩
  have q := hl i σ H hi p
  by_cases hlt : i < xs.length
  · refine .inr ⟨⟨xs, xs[i], q, by simp [hlt]⟩, Pv (i + 1), fun σ' H' p' => ⟨xs.length - (i + 1), by omega, rfl, hlt, p'⟩, fun x H' y => ?_⟩
    obtain ⟨e, y⟩ := y
    subst e
    exact hs i x σ _ (y xs q) p
  · have e : i = xs.length := by omega
    subst e
    exact .inl ⟨⟨xs, q, Nat.le_refl _⟩, hd σ H p⟩
theorem for_tup {K : PySem.W.Frag} {a : Addr} {xs : List V} {g : TG} {tb : TS} {D : Ends} {σ : St} {H : Hp} (Pv : Nat → St → Hp → Prop) (h0 : Pv 0 σ H) (hl : ∀ i σ H, i ≤ xs.length → Pv i σ H → SqT K H a xs)
    (hs : ∀ i x σ H, xs[i]? = some x → Pv i σ H → g x σ H fun σ2 H2 => tb { D with nx := Pv (i + 1), ct := Pv (i + 1), bk := D.nx } σ2 H2) (hd : ∀ σ H, Pv xs.length σ H → D.nx σ H) :
    ∃ W : Nat → Nat → St → Hp → Prop, (∃ m, W 0 m σ H) ∧ ∀ i m σ H, W i m σ H →
      ((Itt K a).stop i H ∧ D.nx σ H) ∨ ((Itt K a).go i H ∧ ∃ N : St → Hp → Prop, (∀ σ' H', N σ' H' → ∃ m', m' < m ∧ W (i + 1) m' σ' H') ∧ ∀ x H', (Itt K a).yld i H x H' → g x σ H' fun σ2 H2 => tb { D with nx := N, ct := N, bk := D.nx } σ2 H2) := by
  refine ⟨fun i m σ H => m = xs.length - i ∧ i ≤ xs.length ∧ Pv i σ H, ⟨xs.length, by simp, Nat.zero_le _, h0⟩, ?_⟩
  rintro i m σ H ⟨rfl, hi, p⟩
  have q := hl i σ H hi p
  by_cases hlt : i < xs.length
  · refine .inr ⟨⟨xs, xs[i], q, by simp [hlt]⟩, Pv (i + 1), fun σ' H' p' => ⟨xs.length - (i + 1), by omega, rfl, hlt, p'⟩, fun x H' y => ?_⟩
    obtain ⟨e, y⟩ := y
    subst e
    exact hs i x σ _ (y xs q) p
  · have e : i = xs.length := by omega
    subst e
    exact .inl ⟨⟨xs, q, Nat.le_refl _⟩, hd σ H p⟩
theorem for_range {lo : Int} {n : Nat} {g : TG} {tb : TS} {D : Ends} {σ : St} {H : Hp} (Pv : Nat → St → Hp → Prop) (h0 : Pv 0 σ H)
    (hs : ∀ i σ H, i < n → Pv i σ H → g (.int (lo + i)) σ H fun σ2 H2 => tb { D with nx := Pv (i + 1), ct := Pv (i + 1), bk := D.nx } σ2 H2) (hd : ∀ σ H, Pv n σ H → D.nx σ H) :
    ∃ W : Nat → Nat → St → Hp → Prop, (∃ m, W 0 m σ H) ∧ ∀ i m σ H, W i m σ H →
      ((Itr lo n).stop i H ∧ D.nx σ H) ∨ ((Itr lo n).go i H ∧ ∃ N : St → Hp → Prop, (∀ σ' H', N σ' H' → ∃ m', m' < m ∧ W (i + 1) m' σ' H') ∧ ∀ x H', (Itr lo n).yld i H x H' → g x σ H' fun σ2 H2 => tb { D with nx := N, ct := N, bk := D.nx } σ2 H2) := by
  refine ⟨fun i m σ H => m = n - i ∧ i ≤ n ∧ Pv i σ H, ⟨n, by simp, Nat.zero_le _, h0⟩, ?_⟩
  rintro i m σ H ⟨rfl, hi, p⟩
  by_cases hlt : i < n
  · refine .inr ⟨hlt, Pv (i + 1), fun σ' H' p' => ⟨n - (i + 1), by omega, rfl, hlt, p'⟩, fun x H' y => ?_⟩
    obtain ⟨e, y⟩ := y
    subst e y
    exact hs i σ _ hlt p
  · have e : i = n := by omega
    subst e
    exact .inl ⟨Nat.le_refl _, hd σ H p⟩
theorem while_by {c : TT} {tb : TS} {D : Ends} {σ : St} {H : Hp} (Pv : St → Hp → Prop) (μ : St → Hp → Nat) (h0 : Pv σ H)
    (hs : ∀ σ H, Pv σ H → c σ H fun b H1 => if b = true then tb { D with nx := fun σ' H' => Pv σ' H' ∧ μ σ' H' < μ σ H, ct := fun σ' H' => Pv σ' H' ∧ μ σ' H' < μ σ H, bk := D.nx } σ H1 else D.nx σ H1)
    (mono : ∀ σ H Q Q', (∀ b H1, Q b H1 → Q' b H1) → c σ H Q → c σ H Q') : tWhile c tb D σ H := by
  refine ⟨fun m σ H => m = μ σ H ∧ Pv σ H, ⟨_, rfl, h0⟩, ?_⟩
  rintro m σ H ⟨rfl, p⟩
  refine mono σ H _ _ (fun b H1 q => ?_) (hs σ H p)
  cases b with
  | true => exact ⟨_, fun σ' H' ⟨p', l⟩ => ⟨_, l, rfl, p'⟩, q⟩
  | false => exact q
end L2
namespace L2
open PySem PySem.Spec PyProof.Rows
abbrev R2 := V → V → Hp → VK → Prop
def OpR (X : Cx) (f : Value → Value → Sem Value) (r : R2) : Prop :=
  ∀ (pins : List (Addr × Obj)) (s : Shared) (σ : St) (H : Hp) (x y : V) (v u : Value) (Q : VK), Inv X pins σ H s → RelV x v → RelV y u → r x y H Q →
    wpAny (model X.prog X.w) X.A (f v u) (EP X pins σ Q) X.xe s
def UnR (X : Cx) (f : Value → Sem Value) (r : V → Hp → VK → Prop) : Prop :=
  ∀ (pins : List (Addr × Obj)) (s : Shared) (σ : St) (H : Hp) (x : V) (v : Value) (Q : VK), Inv X pins σ H s → RelV x v → r x H Q →
    wpAny (model X.prog X.w) X.A (f v) (EP X pins σ Q) X.xe s
def CallR (X : Cx) (f : Value) (r : List V → Hp → VK → Prop) : Prop :=
  ∀ (pins : List (Addr × Obj)) (s : Shared) (σ : St) (H : Hp) (xs : List V) (us : List Value) (Q : VK), Inv X pins σ H s → Vals xs us → r xs H Q →
    wpAny (model X.prog X.w) X.A (call f us) (EP X pins σ Q) X.xe s
def TruR (X : Cx) (r : V → Hp → (Bool → Hp → Prop) → Prop) : Prop :=
  ∀ (pins : List (Addr × Obj)) (s : Shared) (σ : St) (H : Hp) (x : V) (v : Value) (Q : Bool → Hp → Prop), Inv X pins σ H s → RelV x v → r x H Q →
    wpAny (model X.prog X.w) X.A (truthy v) (TP X pins σ Q) X.xe s
def tOp (r : R2) (ta tb : TE) : TE := fun σ H Q => ta σ H fun x H1 => tb σ H1 fun y H2 => r x y H2 Q
def tUn (r : V → Hp → VK → Prop) (ta : TE) : TE := fun σ H Q => ta σ H fun x H1 => r x H1 Q
def rI (C : Int → Int → Prop) (g : Int → Int → V) : R2 := fun x y H Q => ∃ i j, x = .int i ∧ y = .int j ∧ C i j ∧ Q (g i j) H
def rI0 (g : Int → Int → V) : R2 := fun x y H Q => ∃ i j, x = .int i ∧ y = .int j ∧ Q (g i j) H
def rU (g : Int → V) : V → Hp → VK → Prop := fun x H Q => ∃ i, x = .int i ∧ Q (g i) H
section
variable {X : Cx} {a b c : Expr} {ta tb tc : TE} {pos : Pos}
theorem binT (ha : PE X a ta) (hb : PE X b tb) {pins : List (Addr × Obj)} {s : Shared} {σ : St} {H : Hp} {R : V → V → Hp → Prop} (I : Inv X pins σ H s)
    (h : ta σ H fun x H1 => tb σ H1 fun y H2 => R x y H2) {Q : Value → Shared → Prop} {f : Value → Value → Sem Value}
    (hf : ∀ v u s2 x y H2, Inv X pins σ H2 s2 → RelV x v → RelV y u → R x y H2 → wpAny (model X.prog X.w) X.A (f v u) Q X.xe s2) :
    wpAny (model X.prog X.w) X.A (eval a X.env) (fun v s₁ => wpAny (model X.prog X.w) X.A (eval b X.env) (fun u s₂ => wpAny (model X.prog X.w) X.A (f v u) Q X.xe s₂) X.xe s₁) X.xe s := by
  refine thn (ha pins s σ H _ I h) fun v s1 ⟨x, H1, I1, r1, q1⟩ => ?_
  refine thn (hb pins s1 σ H1 _ I1 q1) fun u s2 ⟨y, H2, I2, r2, q2⟩ => ?_
  exact hf v u s2 x y H2 I2 r1 r2 q2
theorem pe_op {op : Operator} {r : R2} (ho : OpR X (binaryOp op) r) (ha : PE X a ta) (hb : PE X b tb) : PE X (.BinOp a op b pos) (tOp r ta tb) := by
  intro pins s σ H Q I h
  exact wpAny_BinOp (binT ha hb I h fun v u s2 x y H2 I2 rx ry q => ho pins s2 σ H2 x y v u Q I2 rx ry q)
theorem pe_un {op : UnaryOp} {r : V → Hp → VK → Prop} (ho : UnR X (unaryOp op) r) (ha : PE X a ta) : PE X (.UnaryOp op a pos) (tUn r ta) := by
  intro pins s σ H Q I h
  exact UnaryOp_ (thn (ha pins s σ H _ I h) fun v s1 ⟨x, H1, I1, r1, q1⟩ => ho pins s1 σ H1 x v Q I1 r1 q1)
theorem augR {op : Operator} {r : R2} (ho : OpR X (inplaceOp op) r) {pins : List (Addr × Obj)} {s : Shared} {σ : St} {H : Hp} {x y : V} {v u : Value} {Q : VK} (I : Inv X pins σ H s)
    (rx : RelV x v) (ry : RelV y u) (q : r x y H Q) : wpAny (model X.prog X.w) X.A (inplaceOp op v u) (EP X pins σ Q) X.xe s := ho pins s σ H x y v u Q I rx ry q
theorem opI {f : Value → Value → Sem Value} {C : Int → Int → Prop} {g : Int → Int → Int}
    (rule : ∀ (i j : Int) (t u : Tok) (s : Shared) (Q : Value → Shared → Prop) (E : Value → Shared → Prop), C i j → Q (.int (g i j) s.toks) { s with toks := s.toks + 1 } → wpAny (model X.prog X.w) X.A (f (.int i t) (.int j u)) Q E s) :
    OpR X f (rI C fun i j => .int (g i j)) := by
  intro pins s σ H x y v u Q I rx ry h
  obtain ⟨i, j, rfl, rfl, hc, q⟩ := h
  obtain ⟨t, rfl⟩ := rx
  obtain ⟨t', rfl⟩ := ry
  exact rule i j t t' s _ _ hc ⟨.int (g i j), H, I.tok _, ⟨_, rfl⟩, q⟩
theorem opI0 {f : Value → Value → Sem Value} {g : Int → Int → Int}
    (rule : ∀ (i j : Int) (t u : Tok) (s : Shared) (Q : Value → Shared → Prop) (E : Value → Shared → Prop), Q (.int (g i j) s.toks) { s with toks := s.toks + 1 } → wpAny (model X.prog X.w) X.A (f (.int i t) (.int j u)) Q E s) :
    OpR X f (rI0 fun i j => .int (g i j)) := by
  intro pins s σ H x y v u Q I rx ry h
  obtain ⟨i, j, rfl, rfl, q⟩ := h
  obtain ⟨t, rfl⟩ := rx
  obtain ⟨t', rfl⟩ := ry
  exact rule i j t t' s _ _ ⟨.int (g i j), H, I.tok _, ⟨_, rfl⟩, q⟩
theorem opB0 {f : Value → Value → Sem Value} {g : Int → Int → Bool}
    (rule : ∀ (i j : Int) (t u : Tok) (s : Shared) (Q : Value → Shared → Prop) (E : Value → Shared → Prop), Q (.bool (g i j)) s → wpAny (model X.prog X.w) X.A (f (.int i t) (.int j u)) Q E s) :
    OpR X f (rI0 fun i j => .bl (g i j)) := by
  intro pins s σ H x y v u Q I rx ry h
  obtain ⟨i, j, rfl, rfl, q⟩ := h
  obtain ⟨t, rfl⟩ := rx
  obtain ⟨t', rfl⟩ := ry
  exact rule i j t t' s _ _ ⟨.bl (g i j), H, I, rfl, q⟩
def CDiv (i j : Int) : Prop := 0 < j ∧ j < 1073741824
def CDivN (i j : Int) : Prop := j ≠ 0 ∧ j.natAbs < 1073741824
def CPow (i j : Int) : Prop := 0 ≤ j ∧ j ≤ 1000000 ∧ i.natAbs < 2 ^ 64
def CMul (i j : Int) : Prop := (-(2 ^ 64) < i ∧ i < 2 ^ 64) ∨ (-(2 ^ 64) < j ∧ j < 2 ^ 64)
theorem CMul.ok {i j : Int} (h : CMul i j) : IntMulOk i j := by
  rcases h with ⟨h1, h2⟩ | ⟨h1, h2⟩
  · exact .of_left (intBits_le_64 h1 h2)
  · exact .of_right (intBits_le_64 h1 h2)
theorem two_pow_nn (k : Nat) : (0 : Int) ≤ 2 ^ k := by
  rw [two_pow_cast]
  exact Int.natCast_nonneg _
theorem op_add : OpR X (binaryOp .Add) (rI0 fun i j => .int (i + j)) := opI0 fun _ _ _ _ _ _ _ q => add_int q
theorem op_sub : OpR X (binaryOp .Sub) (rI0 fun i j => .int (i - j)) := opI0 fun _ _ _ _ _ _ _ q => sub_int q
theorem op_mul : OpR X (binaryOp .Mult) (rI CMul fun i j => .int (i * j)) := opI fun _ _ _ _ _ _ _ hc q => mul_int q hc.ok
theorem op_fdiv : OpR X (binaryOp .FloorDiv) (rI CDiv fun i j => .int (i / j)) := opI fun i j _ _ _ _ _ hc q => by
  have h1 : (0 : Int) < j := hc.1
  have h2 : j < 1073741824 := hc.2
  exact floordiv_int (by omega) (by rw [Int.fdiv_eq_ediv_of_nonneg i (by omega)]; exact q) (.inl (PyProof.noPylong_small (by omega)))
theorem op_fdivN : OpR X (binaryOp .FloorDiv) (rI CDivN fun i j => .int (i.fdiv j)) := opI fun _ _ _ _ _ _ _ hc q => floordiv_int hc.1 q (.inl (PyProof.noPylong_small hc.2))
theorem op_mod : OpR X (binaryOp .Mod) (rI (fun _ j => 0 < j) fun i j => .int (i % j)) := opI fun i j _ _ _ _ _ hc q => by
  have h1 : (0 : Int) < j := hc
  exact mod_int' (by omega) (by rw [Int.fmod_eq_emod_of_nonneg i (by omega)]; exact q)
theorem op_modN : OpR X (binaryOp .Mod) (rI (fun _ j => j ≠ 0) fun i j => .int (i.fmod j)) := opI fun _ _ _ _ _ _ _ hc q => mod_int' hc q
theorem op_pow : OpR X (binaryOp .Pow) (rI CPow fun i j => .int (i ^ j.toNat)) := opI fun _ _ _ _ _ _ _ hc q => pow_int_small hc.1 hc.2.1 hc.2.2 q
theorem op_shl : OpR X (binaryOp .LShift) (rI CPow fun i j => .int (i * 2 ^ j.toNat)) := opI fun _ _ _ _ _ _ _ hc q => lshift_int_small hc.1 hc.2.1 hc.2.2 q
theorem op_shr : OpR X (binaryOp .RShift) (rI (fun _ j => 0 ≤ j) fun i j => .int (i / 2 ^ j.toNat)) := opI fun i j _ _ _ _ _ hc q =>
  rshift_int hc (by rw [Int.fdiv_eq_ediv_of_nonneg i (two_pow_nn _)]; exact q)
theorem op_and : OpR X (binaryOp .BitAnd) (rI0 fun i j => .int (Builtin.bitAnd i j)) := opI0 fun _ _ _ _ _ _ _ q => and_int q
theorem op_or : OpR X (binaryOp .BitOr) (rI0 fun i j => .int (Builtin.bitOr i j)) := opI0 fun _ _ _ _ _ _ _ q => or_int q
theorem op_xor : OpR X (binaryOp .BitXor) (rI0 fun i j => .int (Builtin.bitXor i j)) := opI0 fun _ _ _ _ _ _ _ q => xor_int q
theorem iop_add : OpR X (inplaceOp .Add) (rI0 fun i j => .int (i + j)) := opI0 fun _ _ _ _ _ _ _ q => iadd_int q
theorem iop_sub : OpR X (inplaceOp .Sub) (rI0 fun i j => .int (i - j)) := opI0 fun _ _ _ _ _ _ _ q => isub_int q
theorem iop_mul : OpR X (inplaceOp .Mult) (rI CMul fun i j => .int (i * j)) := opI fun _ _ _ _ _ _ _ hc q => imul_int q hc.ok
theorem iop_fdiv : OpR X (inplaceOp .FloorDiv) (rI CDiv fun i j => .int (i / j)) := opI fun i j _ _ _ _ _ hc q => by
  have h1 : (0 : Int) < j := hc.1
  have h2 : j < 1073741824 := hc.2
  exact ifloordiv_int (by omega) (by rw [Int.fdiv_eq_ediv_of_nonneg i (by omega)]; exact q) (.inl (PyProof.noPylong_small (by omega)))
theorem iop_mod : OpR X (inplaceOp .Mod) (rI (fun _ j => 0 < j) fun i j => .int (i % j)) := opI fun i j _ _ _ _ _ hc q => by
  have h1 : (0 : Int) < j := hc
  exact imod_int (by omega) (by rw [Int.fmod_eq_emod_of_nonneg i (by omega)]; exact q)
theorem iop_shl : OpR X (inplaceOp .LShift) (rI CPow fun i j => .int (i * 2 ^ j.toNat)) := opI fun _ _ _ _ _ _ _ hc q => ilshift_int_small hc.1 hc.2.1 hc.2.2 q
theorem iop_shr : OpR X (inplaceOp .RShift) (rI (fun _ j => 0 ≤ j) fun i j => .int (i / 2 ^ j.toNat)) := opI fun i j _ _ _ _ _ hc q =>
  irshift_int hc (by rw [Int.fdiv_eq_ediv_of_nonneg i (two_pow_nn _)]; exact q)
theorem iop_and : OpR X (inplaceOp .BitAnd) (rI0 fun i j => .int (Builtin.bitAnd i j)) := opI0 fun _ _ _ _ _ _ _ q => iand_int q
theorem iop_or : OpR X (inplaceOp .BitOr) (rI0 fun i j => .int (Builtin.bitOr i j)) := opI0 fun _ _ _ _ _ _ _ q => ior_int q
theorem iop_xor : OpR X (inplaceOp .BitXor) (rI0 fun i j => .int (Builtin.bitXor i j)) := opI0 fun _ _ _ _ _ _ _ q => ixor_int q
theorem unI {f : Value → Sem Value} {g : Int → Int}
    (rule : ∀ (i : Int) (t : Tok) (s : Shared) (Q : Value → Shared → Prop) (E : Value → Shared → Prop), Q (.int (g i) s.toks) { s with toks := s.toks + 1 } → wpAny (model X.prog X.w) X.A (f (.int i t)) Q E s) :
    UnR X f (rU fun i => .int (g i)) := by
  intro pins s σ H x v Q I rx h
  obtain ⟨i, rfl, q⟩ := h
  obtain ⟨t, rfl⟩ := rx
  exact rule i t s _ _ ⟨.int (g i), H, I.tok _, ⟨_, rfl⟩, q⟩
theorem un_neg : UnR X (unaryOp .USub) (rU fun i => .int (-i)) := unI fun _ _ _ _ _ q => neg_int q
theorem un_inv : UnR X (unaryOp .Invert) (rU fun i => .int (Builtin.bitNot i)) := unI fun _ _ _ _ _ q => invert_int q
theorem op_add_ib : OpR X (binaryOp .Add) (fun x y H Q => ∃ i k, x = .int i ∧ y = .bl k ∧ Q (.int (i + b2i k)) H) := by
  intro pins s σ H x y v u Q I rx ry h
  obtain ⟨i, k, rfl, rfl, q⟩ := h
  obtain ⟨t, rfl⟩ := rx
  cases ry
  exact add_int_bool ⟨.int (i + b2i k), H, I.tok _, ⟨_, rfl⟩, q⟩
end
def scal : V → V → Bool
  | .non, .non => true | .non, .int _ => true | .int _, .non => true | .non, .bl _ => true | .bl _, .non => true | .non, .str _ => true | .str _, .non => true
  | .int _, .int _ => true | .bl _, .bl _ => true | .str _, .str _ => true | .byt _, .byt _ => true
  | .int _, .str _ => true | .str _, .int _ => true | .bl _, .str _ => true | .str _, .bl _ => true
  | _, _ => false
def rEq : R2 := fun x y H Q => scal x y = true ∧ Q (.bl (decide (x = y))) H
def rNe : R2 := fun x y H Q => scal x y = true ∧ Q (.bl (!decide (x = y))) H
theorem dec_int {i j : Int} : decide (V.int i = V.int j) = (i == j) := by
  rw [Bool.eq_iff_iff]
  simp
theorem dec_bl {i j : Bool} : decide (V.bl i = V.bl j) = (i == j) := by
  rw [Bool.eq_iff_iff]
  simp
theorem dec_str {i j : Str} : decide (V.str i = V.str j) = (i == j) := by
  rw [Bool.eq_iff_iff]
  simp
theorem dec_byt {i j : Array UInt8} : decide (V.byt i = V.byt j) = (i.toList == j.toList) := by
  rw [Bool.eq_iff_iff]
  cases i
  cases j
  simp
section
variable {X : Cx} {a b c : Expr} {ta tb tc : TE} {pos : Pos}
theorem fin_bl {pins : List (Addr × Obj)} {σ : St} {H : Hp} {s : Shared} {Q : VK} {k k' : Bool} (I : Inv X pins σ H s) (q : Q (.bl k) H) (e : k = k') : EP X pins σ Q (.bool k') s := by
  subst e
  exact ⟨.bl k, H, I, rfl, q⟩
theorem op_eq : OpR X (compareOp .Eq) rEq := by
  intro pins s σ H x y v u Q I rx ry h
  obtain ⟨hs, q⟩ := h
  cases x with
  | non =>
    cases rx
    cases y with
    | non => cases ry; exact PySem.EqNone.eq_none_none (fin_bl I q (by simp))
    | bl j => cases ry; exact PySem.EqNone.eq_none_bool (fin_bl I q (by simp))
    | int j => obtain ⟨t', rfl⟩ := ry; exact PySem.EqNone.eq_none_int (fin_bl I q (by simp))
    | str j => obtain ⟨t', rfl⟩ := ry; exact PySem.EqNone.eq_none_str (fin_bl I q (by simp))
    | _ => exact absurd (show false = true from hs) Bool.false_ne_true
  | bl i =>
    cases rx
    cases y with
    | non => cases ry; exact PySem.EqNone.eq_bool_none (fin_bl I q (by simp))
    | bl j => cases ry; exact eq_bool (fin_bl I q dec_bl)
    | str j => obtain ⟨t', rfl⟩ := ry; exact PySem.EqMixed.eq_bool_str (fin_bl I q (by simp))
    | _ => exact absurd (show false = true from hs) Bool.false_ne_true
  | int i =>
    obtain ⟨t, rfl⟩ := rx
    cases y with
    | non => cases ry; exact PySem.EqNone.eq_int_none (fin_bl I q (by simp))
    | int j => obtain ⟨t', rfl⟩ := ry; exact eq_int (fin_bl I q dec_int)
    | str j => obtain ⟨t', rfl⟩ := ry; exact PySem.EqMixed.eq_int_str (fin_bl I q (by simp))
    | _ => exact absurd (show false = true from hs) Bool.false_ne_true
  | str i =>
    obtain ⟨t, rfl⟩ := rx
    cases y with
    | non => cases ry; exact PySem.EqNone.eq_str_none (fin_bl I q (by simp))
    | bl j => cases ry; exact PySem.EqMixed.eq_str_bool (fin_bl I q (by simp))
    | int j => obtain ⟨t', rfl⟩ := ry; exact PySem.EqMixed.eq_str_int (fin_bl I q (by simp))
    | str j => obtain ⟨t', rfl⟩ := ry; exact eq_str (fin_bl I q dec_str)
    | _ => exact absurd (show false = true from hs) Bool.false_ne_true
  | byt i =>
    obtain ⟨t, rfl⟩ := rx
    cases y with
    | byt j => obtain ⟨t', rfl⟩ := ry; exact PySem.W.eq_bytes (fin_bl I q dec_byt)
    | _ => exact absurd (show false = true from hs) Bool.false_ne_true
  | _ => cases y <;> exact absurd (show false = true from hs) Bool.false_ne_true
theorem op_ne : OpR X (compareOp .NotEq) rNe := by
  intro pins s σ H x y v u Q I rx ry h
  obtain ⟨hs, q⟩ := h
  cases x with
  | non =>
    cases rx
    cases y with
    | non => cases ry; exact PySem.EqNone.ne_none_none (fin_bl I q (by simp))
    | bl j => cases ry; exact PySem.EqNone.ne_none_bool (fin_bl I q (by simp))
    | int j => obtain ⟨t', rfl⟩ := ry; exact PySem.EqNone.ne_none_int (fin_bl I q (by simp))
    | str j => obtain ⟨t', rfl⟩ := ry; exact PySem.EqNone.ne_none_str (fin_bl I q (by simp))
    | _ => exact absurd (show false = true from hs) Bool.false_ne_true
  | bl i =>
    cases rx
    cases y with
    | non => cases ry; exact PySem.EqNone.ne_bool_none (fin_bl I q (by simp))
    | bl j => cases ry; exact ne_bool (fin_bl I q (congrArg not dec_bl))
    | str j => obtain ⟨t', rfl⟩ := ry; exact PySem.EqMixed.ne_bool_str (fin_bl I q (by simp))
    | _ => exact absurd (show false = true from hs) Bool.false_ne_true
  | int i =>
    obtain ⟨t, rfl⟩ := rx
    cases y with
    | non => cases ry; exact PySem.EqNone.ne_int_none (fin_bl I q (by simp))
    | int j => obtain ⟨t', rfl⟩ := ry; exact ne_int (fin_bl I q (congrArg not dec_int))
    | str j => obtain ⟨t', rfl⟩ := ry; exact PySem.EqMixed.ne_int_str (fin_bl I q (by simp))
    | _ => exact absurd (show false = true from hs) Bool.false_ne_true
  | str i =>
    obtain ⟨t, rfl⟩ := rx
    cases y with
    | non => cases ry; exact PySem.EqNone.ne_str_none (fin_bl I q (by simp))
    | bl j => cases ry; exact PySem.EqMixed.ne_str_bool (fin_bl I q (by simp))
    | int j => obtain ⟨t', rfl⟩ := ry; exact PySem.EqMixed.ne_str_int (fin_bl I q (by simp))
    | str j => obtain ⟨t', rfl⟩ := ry; exact ne_str (fin_bl I q (congrArg not dec_str))
    | _ => exact absurd (show false = true from hs) Bool.false_ne_true
  | byt i =>
    obtain ⟨t, rfl⟩ := rx
    cases y with
    | byt j => obtain ⟨t', rfl⟩ := ry; exact PySem.W.ne_bytes (fin_bl I q (congrArg not dec_byt))
    | _ => exact absurd (show false = true from hs) Bool.false_ne_true
  | _ => cases y <;> exact absurd (show false = true from hs) Bool.false_ne_true
theorem op_lt : OpR X (compareOp .Lt) (rI0 fun i j => .bl (decide (i < j))) := opB0 fun _ _ _ _ _ _ _ q => lt_int q
theorem op_le : OpR X (compareOp .LtE) (rI0 fun i j => .bl (decide (i ≤ j))) := opB0 fun _ _ _ _ _ _ _ q => le_int q
theorem op_gt : OpR X (compareOp .Gt) (rI0 fun i j => .bl (decide (j < i))) := opB0 fun _ _ _ _ _ _ _ q => gt_int q
theorem op_ge : OpR X (compareOp .GtE) (rI0 fun i j => .bl (decide (j ≤ i))) := opB0 fun _ _ _ _ _ _ _ q => ge_int q
theorem op_lt_str : OpR X (compareOp .Lt) (fun x y H Q => ∃ i j, x = .str i ∧ y = .str j ∧ Q (.bl (decide (i.cps.toList < j.cps.toList))) H) := by
  intro pins s σ H x y v u Q I rx ry h
  obtain ⟨i, j, rfl, rfl, q⟩ := h
  obtain ⟨t, rfl⟩ := rx
  obtain ⟨t', rfl⟩ := ry
  exact lt_str (fin_bl I q rfl)
theorem op_in_str : OpR X (compareOp .In) (fun x y H Q => ∃ i j, x = .str i ∧ y = .str j ∧ Q (.bl (!(Builtin.Str.occurrences j i 0 j.length 1).isEmpty)) H) := by
  intro pins s σ H x y v u Q I rx ry h
  obtain ⟨i, j, rfl, rfl, q⟩ := h
  obtain ⟨t, rfl⟩ := rx
  obtain ⟨t', rfl⟩ := ry
  exact in_str (fin_bl I q rfl)
theorem op_isN : OpR X (compareOp .Is) (fun x y H Q => y = .non ∧ Q (.bl (decide (x = .non))) H) := by
  intro pins s σ H x y v u Q I rx ry h
  obtain ⟨rfl, q⟩ := h
  cases ry
  refine is_none_gen (fin_bl I q ?_)
  cases x <;> first
    | (cases rx; rfl)
    | (obtain ⟨t, rfl⟩ := rx; rfl)
theorem op_notN : OpR X (compareOp .IsNot) (fun x y H Q => y = .non ∧ Q (.bl (!decide (x = .non))) H) := by
  intro pins s σ H x y v u Q I rx ry h
  obtain ⟨rfl, q⟩ := h
  cases ry
  refine isnot_none_gen (fin_bl I q ?_)
  cases x <;> first
    | (cases rx; rfl)
    | (obtain ⟨t, rfl⟩ := rx; rfl)
theorem op_notin_str : OpR X (compareOp .NotIn) (fun x y H Q => ∃ i j, x = .str i ∧ y = .str j ∧ Q (.bl (!(!(Builtin.Str.occurrences j i 0 j.length 1).isEmpty))) H) := by
  intro pins s σ H x y v u Q I rx ry h
  obtain ⟨i, j, rfl, rfl, q⟩ := h
  obtain ⟨t, rfl⟩ := rx
  obtain ⟨t', rfl⟩ := ry
  exact notIn_str (fin_bl I q rfl)
def isObj : HO → Bool
  | .lst _ => true
  | .ins _ _ _ => true
  | _ => false
theorem obj_there {pins : List (Addr × Obj)} {s : Shared} {σ : St} {H : Hp} {a : Addr} {o : HO} (I : Inv X pins σ H s) (h : H a = some o) (p : isObj o = true) : ∃ ob, s.heap.get? a = some ob ∧ ob.cls ≠ .type "tuple" := by
  cases o with
  | lst xs =>
    obtain ⟨_, its, n, _, e⟩ : xs.length ≤ sizeLine ∧ ∃ (its : List Value) (n : Nat), Vals xs its ∧ s.heap.get? a = some { cls := .type "list", data := .seq its.toArray n } := I.hok a _ h
    exact ⟨_, e, (by show Value.type "list" ≠ .type "tuple"; decide +kernel)⟩
  | ins C dx fs =>
    have x := I.hok a _ h
    obtain ⟨_, _, _, e, _⟩ := x
    exact ⟨_, e, (by show Value.ref C ≠ .type "tuple"; exact fun z => by cases z)⟩
  | _ => exact absurd (show false = true from p) Bool.false_ne_true
theorem op_is_ref : OpR X (compareOp .Is) (fun x y H Q => ∃ a b oa ob, x = .ref a ∧ y = .ref b ∧ H a = some oa ∧ isObj oa = true ∧ H b = some ob ∧ isObj ob = true ∧ Q (.bl (decide (a = b))) H) := by
  intro pins s σ H x y v u Q I rx ry h
  obtain ⟨a, b, oa, ob, rfl, rfl, ha, pa, hb, pb, q⟩ := h
  cases rx
  cases ry
  obtain ⟨o1, e1, n1⟩ := obj_there I ha pa
  obtain ⟨o2, e2, _⟩ := obj_there I hb pb
  by_cases z : a = b
  · subst z
    exact wpAny_is_ref_self (fin_bl I q (by simp))
  · exact wpAny_is_ref_other z e1 e2 n1 (fin_bl I q (by simp [z]))
theorem op_isnot_ref : OpR X (compareOp .IsNot) (fun x y H Q => ∃ a b oa ob, x = .ref a ∧ y = .ref b ∧ H a = some oa ∧ isObj oa = true ∧ H b = some ob ∧ isObj ob = true ∧ Q (.bl (!decide (a = b))) H) := by
  intro pins s σ H x y v u Q I rx ry h
  obtain ⟨a, b, oa, ob, rfl, rfl, ha, pa, hb, pb, q⟩ := h
  cases rx
  cases ry
  obtain ⟨o1, e1, n1⟩ := obj_there I ha pa
  obtain ⟨o2, e2, _⟩ := obj_there I hb pb
  by_cases z : a = b
  · subst z
    exact wpAny_isNot_ref_self (fin_bl I q (by simp))
  · exact wpAny_isNot_ref_other z e1 e2 n1 (fin_bl I q (by simp [z]))
theorem OpR.or {f : Value → Value → Sem Value} {r r' : R2} (h : OpR X f r) (h' : OpR X f r') : OpR X f (fun x y H Q => r x y H Q ∨ r' x y H Q) := by
  intro pins s σ H x y v u Q I rx ry q
  rcases q with q | q
  · exact h pins s σ H x y v u Q I rx ry q
  · exact h' pins s σ H x y v u Q I rx ry q
theorem nomark (b : Expr) {op : CmpOp} (h : op ≠ .In := by decide) (h2 : op ≠ .NotIn := by decide) : behindInMarks op b = false := by
  have e1 : (op == CmpOp.In) = false := by cases op <;> first | rfl | exact absurd rfl h
  have e2 : (op == CmpOp.NotIn) = false := by cases op <;> first | rfl | exact absurd rfl h2
  cases b <;> simp [behindInMarks, e1, e2]
theorem pe_cmpR {op : CmpOp} {r : R2} (ho : OpR X (compareOp op) r) (ha : PE X a ta) (hb : PE X b tb) (hm : behindInMarks op b = false) : PE X (.Compare a [op] [b] pos) (tOp r ta tb) := by
  intro pins s σ H Q I h
  exact wpAny_Compare1 (binT ha hb I h fun v u s2 x y H2 I2 rx ry q => ho pins s2 σ H2 x y v u Q I2 rx ry q) hm
def tTest (t : TE) : TT := fun σ H Q => t σ H fun x H' => ∃ k, x = .bl k ∧ Q k H'
theorem pt_cmpR {op : CmpOp} {r : R2} (ho : OpR X (compareOp op) r) (ha : PE X a ta) (hb : PE X b tb) (hm : behindInMarks op b = false) : PT X (.Compare a [op] [b] pos) (tTest (tOp r ta tb)) := by
  intro pins s σ H Q I h
  refine wpAny_isTrue_Compare1 (thn (ha pins s σ H _ I h) fun v s1 ⟨x, H1, I1, r1, q1⟩ => thn (hb pins s1 σ H1 _ I1 q1) fun u s2 ⟨y, H2, I2, r2, q2⟩ =>
    thn (ho pins s2 σ H2 x y v u _ I2 r1 r2 q2) fun c s3 ⟨z, H3, I3, r3, k, e, q3⟩ => ?_) hm
  subst e
  cases r3
  exact wpAny_truthy_bool ⟨H3, I3, q3⟩
def tChain (r r' : R2) (ta tb tc : TE) : TE := fun σ H Q => ta σ H fun x H1 => tb σ H1 fun y H2 => r x y H2 fun z H3 => ∃ k, z = .bl k ∧
  (if k = true then tc σ H3 fun w' H4 => r' y w' H4 Q else Q (.bl false) H3)
theorem pe_chain {op op' : CmpOp} {r r' : R2} (ho : OpR X (compareOp op) r) (ho' : OpR X (compareOp op') r') (ha : PE X a ta) (hb : PE X b tb) (hc : PE X c tc)
    (hm : lastMarks [op, op'] [b, c] = false := by with_unfolding_all rfl) : PE X (.Compare a [op, op'] [b, c] pos) (tChain r r' ta tb tc) := by
  intro pins s σ H Q I h
  refine Compare_chain (thn (ha pins s σ H _ I h) fun v s1 ⟨x, H1, I1, r1, q1⟩ => chain_link (thn (hb pins s1 σ H1 _ I1 q1) fun u s2 ⟨y, H2, I2, r2, q2⟩ =>
    thn (ho pins s2 σ H2 x y v u _ I2 r1 r2 q2) fun d s3 ⟨z, H3, I3, r3, k, e, q3⟩ => ?_)) hm
  subst e
  cases r3
  refine wpAny_truthy_bool ?_
  cases k with
  | false => exact ite_ff ⟨.bl false, H3, I3, rfl, q3⟩
  | true => exact ite_tt (chain_last (thn (hc pins s3 σ H3 _ I3 q3) fun w' s4 ⟨z', H4, I4, r4, q4⟩ => ho' pins s4 σ H4 y z' u w' Q I4 r2 r4 q4))
theorem pt_chain {op op' : CmpOp} {r r' : R2} (ho : OpR X (compareOp op) r) (ho' : OpR X (compareOp op') r') (ha : PE X a ta) (hb : PE X b tb) (hc : PE X c tc)
    (hm : lastMarks [op, op'] [b, c] = false := by with_unfolding_all rfl) : PT X (.Compare a [op, op'] [b, c] pos) (tTest (tChain r r' ta tb tc)) := by
  intro pins s σ H Q I h
  refine isTrue_chain (thn (ha pins s σ H _ I h) fun v s1 ⟨x, H1, I1, r1, q1⟩ => test_link (thn (hb pins s1 σ H1 _ I1 q1) fun u s2 ⟨y, H2, I2, r2, q2⟩ =>
    thn (ho pins s2 σ H2 x y v u _ I2 r1 r2 q2) fun d s3 ⟨z, H3, I3, r3, k, e, q3⟩ => ?_)) hm
  subst e
  cases r3
  refine wpAny_truthy_bool ?_
  cases k with
  | false =>
    obtain ⟨k', e', q'⟩ := q3
    cases e'
    exact ite_ff ⟨H3, I3, q'⟩
  | true =>
    refine ite_tt (test_last (thn (hc pins s3 σ H3 _ I3 q3) fun w' s4 ⟨z', H4, I4, r4, q4⟩ => thn (ho' pins s4 σ H4 y z' u w' _ I4 r2 r4 q4) fun d' s5 ⟨z2, H5, I5, r5, k2, e2, q5⟩ => ?_))
    subst e2
    cases r5
    exact wpAny_truthy_bool ⟨H5, I5, q5⟩
def TruV (K : PySem.W.Frag) (x : V) (H : Hp) (k : Bool) : Prop :=
  match x with
  | .non => k = false
  | .bl b => k = b
  | .int i => k = (i != 0)
  | .str y => y.length ≤ sizeLine ∧ k = ((y.length : Int) != 0)
  | .byt y => y.size ≤ sizeLine ∧ k = ((y.size : Int) != 0)
  | .ref p => (∃ xs, SqL K H p xs ∧ k = !xs.isEmpty) ∨ (∃ xs, SqT K H p xs ∧ k = !xs.isEmpty) ∨ ∃ kvs, H p = some (.dK kvs) ∧ k = !kvs.isEmpty
  | _ => False
theorem isEmpty_kv {κ : Type} {kvs : List (κ × V)} {vs : List (κ × Value)} (r : KV kvs vs) : (!vs.isEmpty) = !kvs.isEmpty := by
  cases r <;> rfl
theorem isEmpty_of {xs : List V} {its : List Value} (r : Vals xs its) : (!its.toArray.isEmpty) = !xs.isEmpty := by
  cases r <;> simp
theorem line63 : (sizeLine : Nat) < 2 ^ 63 := by rw [sizeLine_eq]; decide
theorem tru_ok : TruR X (fun x H Q => ∃ k, TruV X.K x H k ∧ Q k H) := by
  intro pins s σ H x v Q I rx h
  obtain ⟨k, e, q⟩ := h
  have hl := line63
  have hs : sizeLine = 16777216 := sizeLine_eq
  cases x with
  | non =>
    cases rx
    have e' : k = false := e
    subst e'
    exact truthy_none ⟨H, I, q⟩
  | bl b =>
    cases rx
    have e' : k = b := e
    subst e'
    exact wpAny_truthy_bool ⟨H, I, q⟩
  | int i =>
    obtain ⟨t, rfl⟩ := rx
    have e' : k = (i != 0) := e
    subst e'
    exact PySem.P.truthy_int ⟨H, I, q⟩
  | str y =>
    obtain ⟨t, rfl⟩ := rx
    obtain ⟨hy, e'⟩ : y.length ≤ sizeLine ∧ k = ((y.length : Int) != 0) := e
    subst e'
    exact PySem.P.truthy_str (by omega) ⟨H, I.tok _, q⟩
  | byt y =>
    obtain ⟨t, rfl⟩ := rx
    obtain ⟨hy, e'⟩ : y.size ≤ sizeLine ∧ k = ((y.size : Int) != 0) := e
    subst e'
    exact PySem.W.truthy_bytes (by omega) ⟨H, I.tok _, q⟩
  | ref p =>
    cases rx
    have e' : (∃ xs, SqL X.K H p xs ∧ k = !xs.isEmpty) ∨ (∃ xs, SqT X.K H p xs ∧ k = !xs.isEmpty) ∨ ∃ kvs, H p = some (.dK kvs) ∧ k = !kvs.isEmpty := e
    rcases e' with ⟨xs, hx, e'⟩ | ⟨xs, hx, e'⟩ | ⟨kvs, hx, e'⟩
    · subst e'
      obtain ⟨its, r, pl, hz⟩ := I.list hx
      have hlen := r.length
      exact wpAny_truthy_list pl.isList (by simp only [List.size_toArray]; omega) ⟨H, I.tok _, by rw [isEmpty_of r]; exact q⟩
    · subst e'
      obtain ⟨its, r, pl, hz⟩ := I.tuple hx
      have hlen := r.length
      exact truthy_tuple pl (by simp only [List.size_toArray]; omega) ⟨H, I.tok _, by rw [isEmpty_of r]; exact q⟩
    · subst e'
      obtain ⟨hz, hS, vs, r, m⟩ : kvs.length ≤ sizeLine ∧ (p == sysModules) = false ∧ ∃ vs, KV kvs vs ∧ s.heap.DictOf (mixKind X.prog X.w) p vs := I.hok p _ hx
      have hlen : kvs.length = vs.length := Paired.length r
      exact wpAny_truthy_dict hS m (by omega) ⟨H, I.tok _, by rw [isEmpty_kv r]; exact q⟩
  | _ => exact (show False from e).elim
theorem pt_truth (ha : PE X a ta) (he : ∀ whole, isTrue a X.env whole = (do let v ← whole; standAt a.pos; holding [v] (truthy v))) :
    PT X a (fun σ H Q => ta σ H fun x H' => ∃ k, TruV X.K x H' k ∧ Q k H') := by
  intro pins s σ H Q I h
  exact isTrue_plain (thn (ha pins s σ H _ I h) fun v s1 ⟨x, H1, I1, r1, q1⟩ => tru_ok pins s1 σ H1 x v Q I1 r1 q1) (he _)
theorem pe_byt {x : List UInt8} {k : Nat} : PE X (.Constant (.bytes x) k pos) (fun _ H Q => Q (.byt x.toArray) H) := fun _ _ _ H _ I h => PySem.W.Constant_bytes ⟨.byt x.toArray, H, I.tok _, ⟨_, rfl⟩, h⟩
theorem op_add_str : OpR X (binaryOp .Add) (fun x y H Q => ∃ i j, x = .str i ∧ y = .str j ∧ i.length + j.length ≤ sizeLine ∧ Q (.str (i ++ j)) H) := by
  intro pins s σ H x y v u Q I rx ry h
  obtain ⟨i, j, rfl, rfl, hz, q⟩ := h
  obtain ⟨t, rfl⟩ := rx
  obtain ⟨t', rfl⟩ := ry
  exact add_str (fun t' tk => ⟨.str (i ++ j), H, I.tok _, ⟨_, rfl⟩, q⟩) hz
theorem iop_add_str : OpR X (inplaceOp .Add) (fun x y H Q => ∃ i j, x = .str i ∧ y = .str j ∧ i.length + j.length ≤ sizeLine ∧ Q (.str (i ++ j)) H) := by
  intro pins s σ H x y v u Q I rx ry h
  obtain ⟨i, j, rfl, rfl, hz, q⟩ := h
  obtain ⟨t, rfl⟩ := rx
  obtain ⟨t', rfl⟩ := ry
  exact iadd_str (fun t' tk => ⟨.str (i ++ j), H, I.tok _, ⟨_, rfl⟩, q⟩) hz
theorem op_add_byt : OpR X (binaryOp .Add) (fun x y H Q => ∃ i j, x = .byt i ∧ y = .byt j ∧ i.size + j.size ≤ 16777216 ∧ Q (.byt (i ++ j)) H) := by
  intro pins s σ H x y v u Q I rx ry h
  obtain ⟨i, j, rfl, rfl, hz, q⟩ := h
  obtain ⟨t, rfl⟩ := rx
  obtain ⟨t', rfl⟩ := ry
  exact PySem.W.KBy.add_bytes hz (fun t' tk => ⟨.byt (i ++ j), H, I.tok _, ⟨_, rfl⟩, q⟩)
def PlainIxT (b : Expr) : Prop := ∀ o i, subscripted b false o i = operate [o, i] (getItem o i)
theorem pe_item_str (ha : PE X a ta) (hb : PE X b tb) (hs : PlainIxT b) :
    PE X (.Subscript a b pos) (tOp (fun x y H Q => ∃ z i c, x = .str z ∧ y = .int i ∧ 0 ≤ i ∧ i < 2 ^ 63 ∧ i < z.length ∧ z.cps[i.toNat]? = some c ∧ Q (.str ⟨#[c]⟩) H) ta tb) := by
  intro pins s σ H Q I h
  refine Subscript_ (binT ha hb I h fun v u s2 x y H2 I2 rx ry q => ?_)
  obtain ⟨z, i, c, rfl, rfl, h0, h63, h1, hc, q⟩ := q
  obtain ⟨t, rfl⟩ := rx
  obtain ⟨t', rfl⟩ := ry
  have e : seqIndex? i z.length = some i.toNat := PySem.StrLaws.seqIndex_nonneg h0 h1
  exact tail_any (typeIs_str s2 z t) slot_str_getitem.lookup (getItem_str (c := c) (by
    have e1 : decide (i < -(2 ^ 63 : Int)) = false := decide_eq_false (by omega)
    have e2 : decide (i ≥ 2 ^ 63) = false := decide_eq_false (by omega)
    rw [e1, e2] <;> rfl) (by rw [e]; exact hc) ⟨.str ⟨#[c]⟩, H2, I2.tok _, ⟨_, rfl⟩, q⟩) (hs _ _)
theorem pe_item_byt (ha : PE X a ta) (hb : PE X b tb) (hs : PlainIxT b) :
    PE X (.Subscript a b pos) (tOp (fun x y H Q => ∃ (z : List UInt8) (i : Int), x = .byt z.toArray ∧ y = .int i ∧ z.length ≤ sizeLine ∧ 0 ≤ i ∧ i < z.length ∧ Q (.int ((z.getD i.toNat 0).toNat : Nat)) H) ta tb) := by
  intro pins s σ H Q I h
  refine Subscript_ (binT ha hb I h fun v u s2 x y H2 I2 rx ry q => ?_)
  obtain ⟨z, i, rfl, rfl, hz, h0, h1, q⟩ := q
  obtain ⟨t, rfl⟩ := rx
  obtain ⟨t', rfl⟩ := ry
  have hl : sizeLine = 16777216 := sizeLine_eq
  exact tail_any (PySem.W.typeIs_bytes s2 z.toArray t) PySem.W.FB.slot_bytes_getitem.lookup (PySem.W.getItem_bytes (by omega) h0 h1 ⟨.int ((z.getD i.toNat 0).toNat : Nat), H2, I2.tok _, ⟨_, rfl⟩, q⟩) (hs _ _)
theorem vals1 {x : V} {us : List Value} (r : Vals [x] us) : ∃ u, us = [u] ∧ RelV x u := by
  cases r with
  | cons r1 r2 => cases r2; exact ⟨_, rfl, r1⟩
theorem vals2 {x y : V} {us : List Value} (r : Vals [x, y] us) : ∃ u w', us = [u, w'] ∧ RelV x u ∧ RelV y w' := by
  cases r with
  | cons r1 r2 =>
    cases r2 with
    | cons r3 r4 => cases r4; exact ⟨_, _, rfl, r1, r3⟩
theorem call_abs : CallR X (.builtin "abs") (fun xs H Q => ∃ i, xs = [.int i] ∧ Q (.int (if i < 0 then -i else i)) H) := by
  intro pins s σ H xs us Q I r h
  obtain ⟨i, rfl, q⟩ := h
  obtain ⟨u, rfl, t, rfl⟩ := vals1 r
  exact call_abs_int fun u tk => ⟨.int (if i < 0 then -i else i), H, I.tok _, ⟨_, rfl⟩, q⟩
theorem call_max2 (hc : X.calm = true) : CallR X (.builtin "max") (fun xs H Q => ∃ i j, xs = [.int i, .int j] ∧ Q (.int (if j > i then j else i)) H) := by
  intro pins s σ H xs us Q I r h
  obtain ⟨i, j, rfl, q⟩ := h
  obtain ⟨u, w', rfl, ⟨t, rfl⟩, ⟨t', rfl⟩⟩ := vals2 r
  refine max_two_ints (I.ok.hd hc) fun h' tk k => ⟨_, H, I.kept k, ?_, q⟩
  by_cases hj : j > i
  · rw [if_pos hj, if_pos hj]; exact ⟨_, rfl⟩
  · rw [if_neg hj, if_neg hj]; exact ⟨_, rfl⟩
theorem call_min2 (hc : X.calm = true) : CallR X (.builtin "min") (fun xs H Q => ∃ i j, xs = [.int i, .int j] ∧ Q (.int (if j < i then j else i)) H) := by
  intro pins s σ H xs us Q I r h
  obtain ⟨i, j, rfl, q⟩ := h
  obtain ⟨u, w', rfl, ⟨t, rfl⟩, ⟨t', rfl⟩⟩ := vals2 r
  refine min_two_ints (I.ok.hd hc) fun h' tk k => ⟨_, H, I.kept k, ?_, q⟩
  by_cases hj : j < i
  · rw [if_pos hj, if_pos hj]; exact ⟨_, rfl⟩
  · rw [if_neg hj, if_neg hj]; exact ⟨_, rfl⟩
theorem call_int1 : CallR X (.type "int") (fun xs H Q => (∃ i, xs = [.int i] ∧ Q (.int i) H) ∨ ∃ k, xs = [.bl k] ∧ Q (.int (if k then 1 else 0)) H) := by
  intro pins s σ H xs us Q I r h
  rcases h with ⟨i, rfl, q⟩ | ⟨k, rfl, q⟩
  · obtain ⟨u, rfl, t, rfl⟩ := vals1 r
    exact call_int_int ⟨.int i, H, I, ⟨_, rfl⟩, q⟩
  · obtain ⟨u, rfl, r1⟩ := vals1 r
    cases r1
    exact call_int_bool ⟨.int (if k then 1 else 0), H, I.tok _, ⟨_, rfl⟩, q⟩
theorem call_bool1 : CallR X (.type "bool") (fun xs H Q => (∃ i, xs = [.int i] ∧ Q (.bl (i != 0)) H) ∨ ∃ k, xs = [.bl k] ∧ Q (.bl k) H) := by
  intro pins s σ H xs us Q I r h
  rcases h with ⟨i, rfl, q⟩ | ⟨k, rfl, q⟩
  · obtain ⟨u, rfl, t, rfl⟩ := vals1 r
    exact call_bool_int ⟨.bl (i != 0), H, I, rfl, q⟩
  · obtain ⟨u, rfl, r1⟩ := vals1 r
    cases r1
    exact call_bool_bool ⟨.bl k, H, I, rfl, q⟩
theorem call_str_int : CallR X (.type "str") (fun xs H Q => ∃ i, xs = [.int i] ∧ i.natAbs.log2 < 1920 ∧ Q (.str (toString i)) H) := by
  intro pins s σ H xs us Q I r h
  obtain ⟨i, rfl, hz, q⟩ := h
  obtain ⟨u, rfl, t, rfl⟩ := vals1 r
  exact PySem.P.str_of_int hz ⟨.str _, H, I.tok _, ⟨_, rfl⟩, q⟩
theorem call_ord : CallR X (.builtin "ord") (fun xs H Q => ∃ x, xs = [.str x] ∧ x.length = 1 ∧ Q (.int (x.cps.getD 0 0 : Nat)) H) := by
  intro pins s σ H xs us Q I r h
  obtain ⟨x, rfl, hz, q⟩ := h
  obtain ⟨u, rfl, t, rfl⟩ := vals1 r
  exact ord_of_one hz ⟨.int _, H, I.tok _, ⟨_, rfl⟩, q⟩
theorem call_chr : CallR X (.builtin "chr") (fun xs H Q => ∃ i, xs = [.int i] ∧ 0 ≤ i ∧ i ≤ 1114111 ∧ Q (.str ⟨#[i.toNat]⟩) H) := by
  intro pins s σ H xs us Q I r h
  obtain ⟨i, rfl, h0, h1, q⟩ := h
  obtain ⟨u, rfl, t, rfl⟩ := vals1 r
  exact chr_of_range h0 h1 ⟨.str _, H, I.tok _, ⟨_, rfl⟩, q⟩
def LenV (K : PySem.W.Frag) (x : V) (H : Hp) (n : Nat) : Prop :=
  match x with
  | .str y => y.length ≤ sizeLine ∧ n = y.length
  | .byt y => y.size ≤ sizeLine ∧ n = y.size
  | .ref p => (∃ xs, SqL K H p xs ∧ n = xs.length) ∨ ∃ xs, SqT K H p xs ∧ n = xs.length
  | _ => False
theorem call_len : CallR X (.builtin "len") (fun xs H Q => ∃ x n, xs = [x] ∧ LenV X.K x H n ∧ Q (.int n) H) := by
  intro pins s σ H xs us Q I r h
  obtain ⟨x, n, rfl, e, q⟩ := h
  obtain ⟨u, rfl, rx⟩ := vals1 r
  have hl := line63
  have hs : sizeLine = 16777216 := sizeLine_eq
  cases x with
  | str y =>
    obtain ⟨t, rfl⟩ := rx
    obtain ⟨hy, e'⟩ : y.length ≤ sizeLine ∧ n = y.length := e
    subst e'
    exact len_str (by omega) ⟨.int _, H, I.tok _, ⟨_, rfl⟩, q⟩
  | byt y =>
    obtain ⟨t, rfl⟩ := rx
    obtain ⟨hy, e'⟩ : y.size ≤ sizeLine ∧ n = y.size := e
    subst e'
    exact PySem.W.len_bytes (by omega) ⟨.int _, H, I.tok _, ⟨_, rfl⟩, q⟩
  | ref p =>
    cases rx
    have e' : (∃ xs, SqL X.K H p xs ∧ n = xs.length) ∨ ∃ xs, SqT X.K H p xs ∧ n = xs.length := e
    rcases e' with ⟨xs, hx, e'⟩ | ⟨xs, hx, e'⟩
    · subst e'
      obtain ⟨its, r', pl, hz⟩ := I.list hx
      have hlen := r'.length
      exact Calls.call_len_list pl.isList (by simp only [List.size_toArray]; omega) ⟨.int xs.length, H, I.tok _, ⟨_, by simp only [List.size_toArray]; rw [hlen]⟩, q⟩
    · subst e'
      obtain ⟨its, r', pl, hz⟩ := I.tuple hx
      have hlen := r'.length
      exact len_tuple pl (by simp only [List.size_toArray]; omega) ⟨.int xs.length, H, I.tok _, ⟨_, by simp only [List.size_toArray]; rw [hlen]⟩, q⟩
  | _ => exact (show False from e).elim
theorem call_divmod : CallR X (.builtin "divmod") (fun xs H Q => ∃ i j, xs = [.int i, .int j] ∧ CDiv i j ∧ ∀ p, H p = none → Q (.ref p) (upd H p (.tup [.int (i / j), .int (i % j)]))) := by
  intro pins s σ H xs us Q I r h
  obtain ⟨i, j, rfl, ⟨h1, h2⟩, q⟩ := h
  obtain ⟨u, w', rfl, ⟨t, rfl⟩, ⟨t', rfl⟩⟩ := vals2 r
  refine divmod_int (by omega) ?_ (.inl (PyProof.noPylong_small (by omega)))
  rw [Int.fdiv_eq_ediv_of_nonneg i (by omega), Int.fmod_eq_emod_of_nonneg i (by omega)]
  have hn : H s.heap.objs.size = none := I.hok.fresh (Nat.le_refl _)
  refine ⟨.ref s.heap.objs.size, _, ?_, rfl, q _ hn⟩
  refine I.laid (fun b o e => Heap.get?_push_of_some _ e) (Nat.le_refl _) ⟨by simp only [List.length_cons, List.length_nil]; rw [sizeLine_eq]; decide, [.int (i / j) s.toks, .int (i % j) (s.toks + 1)], .cons ⟨_, rfl⟩ (.cons ⟨_, rfl⟩ .nil), ?_⟩
  exact ⟨_, Heap.get?_push_size s.heap rfl, rfl, 0, rfl⟩
end
end L2
namespace L2
open PySem PySem.Spec PyProof.Rows
structure ObjM (h : Heap) (x dx C : Addr) (mA : Str → Option Value) : Prop where
  obj : h.get? x = some (PySem.W.instObj C dx)
  ns : h.Ns1 dx mA
  ne : dx ≠ x
theorem lookIn_ns {h : Heap} {dx : Addr} {mA : Str → Option Value} (n : h.Ns1 dx mA) : ∃ od, h.get? dx = some od ∧ ∀ name, PySem.W.lookIn name od = some (mA name) := by
  obtain ⟨o, es, ep, ho, hd, hk, _, hm⟩ := n
  refine ⟨o, ho, fun name => ?_⟩
  have e := hm name
  unfold nsFind findBy at e
  rw [← Array.find?_toList] at e
  unfold PySem.W.lookIn
  rw [hd]
  dsimp only
  split
  · rename_i y q
    rw [q] at e
    exact congrArg some e
  · rename_i q
    rw [q] at e
    have a : es.toList.any (·.refKey) = false := by
      rw [List.any_eq_false]
      intro y hy
      obtain ⟨z, t, hkey⟩ := hk y (Array.mem_toList_iff.mp hy)
      simp [DictEntry.refKey, hkey]
    have a' : ¬ es.toList.any (·.refKey) = true := by rw [a]; exact Bool.false_ne_true
    rw [if_neg a']
    exact congrArg some e
theorem ObjM.look {h : Heap} {x dx C : Addr} {mA : Str → Option Value} (I : ObjM h x dx C mA) : ∃ od, PySem.W.InstAt h x (PySem.W.instObj C dx) C (some od) ∧ ∀ name, PySem.W.lookIn name od = some (mA name) :=
  let ⟨od, ho, hl⟩ := lookIn_ns I.ns
  ⟨od, ⟨I.obj, rfl, rfl, ho⟩, hl⟩
section
variable {prog : Program} {w : World} {A : Around} {E : Value → Shared → Prop} {s : Shared} {K : PySem.W.Frag} {x dx C f : Addr} {mA : Str → Option Value} {name : Str} {v : Value}
theorem get_map {expr : Bool} {Q : Value → Shared → Prop} (X : K.In s.heap) (I : ObjM s.heap x dx C mA) (hg : PySem.W.plainGet K C name = true) (hh : PySem.W.hasDictIn K C = true)
    (ha : PySem.W.findIn K (.ref C) name = some none) (hv : mA name = some v) (hv' : PySem.W.handedIn v = true) (h : Q v { s with toks := s.toks + 1 }) :
    wpAny (model prog w) A (getAttr (.ref x) name expr) Q E s := by
  obtain ⟨od, J, hl⟩ := I.look
  exact PySem.W.get_value X J (PySem.W.plainGet_of hg).1 (PySem.W.findObj_own hh ha rfl (by rw [hl, hv])) hv' h
theorem get_const {expr : Bool} {a : Value} {Q : Value → Shared → Prop} (X : K.In s.heap) (I : ObjM s.heap x dx C mA) (hg : PySem.W.plainGet K C name = true) (hh : PySem.W.hasDictIn K C = true)
    (ha : PySem.W.findIn K (.ref C) name = some (some a)) (hn : PySem.W.specialIn K a "__get__" = some none) (hc : PySem.W.copiedNames.contains name = false) (hv : mA name = none) (hv' : PySem.W.handedIn a = true)
    (h : Q a { s with toks := s.toks + 1 }) : wpAny (model prog w) A (getAttr (.ref x) name expr) Q E s := by
  obtain ⟨od, J, hl⟩ := I.look
  exact PySem.W.get_value X J (PySem.W.plainGet_of hg).1 (PySem.W.findObj_cls hh ha hn hv' hc (by rw [hl, hv])) hv' h
theorem get_meth {pl : Sem Bool} {Q : Value × List Value → Shared → Prop} (X : K.In s.heap) (I : ObjM s.heap x dx C mA) (hg : PySem.W.plainGet K C name = true)
    (hf : PySem.W.findIn K (.ref C) name = some (some (.ref f))) (ht : PySem.W.isFn K (.ref f) = true) (hv : mA name = none) (h : Q (.ref f, [.ref x]) s) :
    wpAny (model prog w) A (getMethod (.ref x) name pl) Q E s := by
  obtain ⟨od, J, hl⟩ := I.look
  exact PySem.W.method_fn X J (PySem.W.plainGet_of hg).1 (PySem.W.plainGet_of hg).2 hf (beq_iff_eq.mp ht) (by show (PySem.W.lookIn name od).map (·.isSome) = some false; rw [hl, hv]; rfl) h
theorem set_map {ns : List Str} {Q : Unit → Shared → Prop} (X : K.In s.heap) (I : ObjM s.heap x dx C mA)
    (hs : PySem.W.findIn K (.ref C) "__setattr__" = some (some (.builtin "object.__setattr__"))) (hp : PySem.W.plainOver K C = true) (ht : PySem.W.takerIn K C name = some none) (hh : PySem.W.hasDictIn K C = true)
    (hw : PySem.Within mA ns) (hsz : ns.length ≤ sizeLine)
    (h : ∀ h', ObjM h' x dx C (fun y => if y = name then some v else mA y) → Heap.SameBut dx s.heap h' → Q () { s with heap := h', toks := s.toks + 2 }) :
    wpAny (model prog w) A (setAttr (.ref x) name v) Q E s := by
  obtain ⟨od, J, hl⟩ := I.look
  refine PySem.W.set_plain X J hs (PySem.W.osa_open (s := { s with toks := s.toks + 1 }) (r := none) X J hp ht fun b => ?_)
  obtain ⟨cd, hc, hd'⟩ := PySem.W.any_some hh
  have hx : s.heap.get? x = some ⟨.ref C, some dx, .plain, #[]⟩ := I.obj
  refine wpAny_bind (wpAny_pure (wpAny_bind (wpAny_bind (wpAny_loadPart hx (wpAny_bind (PySem.W.Looks.here (s := { s with toks := s.toks + 1 }) (PySem.W.looks_clsIn X hc) ?_))))))
  rw [hd']
  refine wpAny_pure (a := some dx) (wpAny_bind (wpAny_pure (wpAny_bind ?_)))
  refine wpAny_nsSet1 (s := { s with toks := s.toks + 1 }) I.ns fun h' hn2 hs2 => ?_
  obtain ⟨oD, esD, epD, hoD, hdD, hcD⟩ := hn2.count (PySem.Within.cons name v hw)
  refine wpAny_bind (wpAny_lookBehind hoD (by rw [hdD]; exact pastItsLine_dict (Nat.le_trans hcD (by rw [List.length_cons]; omega))) ?_)
  exact wpAny_pure (h _ ⟨(hs2.2 _ (Ne.symm I.ne)).trans I.obj, hn2, I.ne⟩ hs2)
theorem make_map {R : Result → Shared → Prop} {vs : List Value} {kw : List (Str × Value)} (X : K.In s.heap) (hm : PySem.W.makesIn K C = true)
    (hi : PySem.W.findIn K (.ref C) "__init__" = some (some (.ref f))) (hf : PySem.W.typeIn K (.ref f) = some (.type "function"))
    (h : codeAny (model prog w) (A.under (.builtin "type.__call__" ⟨.ref C :: vs, kw⟩)) (.call (.ref f) ⟨.ref (s.heap.objs.size + 1) :: vs, kw⟩) (PySem.W.InitBack (s.heap.objs.size + 1) R)
      { s with heap := (s.heap.push PySem.W.emptyDict).push (PySem.W.instObj C s.heap.objs.size) }) :
    codeAny (model prog w) A (.call (.ref C) ⟨vs, kw⟩) R s := by
  obtain ⟨hh, g, d, t, os⟩ := s
  exact PySem.W.make_core (PySem.W.makes_of X hm) (PySem.W.looks_findIn X hi) (fun self => PySem.W.bind_fn X self hf) (.inl rfl) h
theorem make_map0 {R : Result → Shared → Prop} (X : K.In s.heap) (hm : PySem.W.makesIn K C = true)
    (hi : PySem.W.findIn K (.ref C) "__init__" = some (some (.builtin "object.__init__")))
    (hb : ∀ self, PySem.W.Looks (model prog w) s.heap (bindSpecial (.builtin "object.__init__") self) (.builtin "object.__init__", [self]))
    (h : codeAny (model prog w) (A.under (.builtin "type.__call__" ⟨[.ref C], []⟩)) (.call (.builtin "object.__init__") ⟨[.ref (s.heap.objs.size + 1)], []⟩) (PySem.W.InitBack (s.heap.objs.size + 1) R)
      { s with heap := (s.heap.push PySem.W.emptyDict).push (PySem.W.instObj C s.heap.objs.size) }) :
    codeAny (model prog w) A (.call (.ref C) ⟨[], []⟩) R s := by
  obtain ⟨hh, g, d, t, os⟩ := s
  exact PySem.W.make_core (PySem.W.makes_of X hm) (PySem.W.looks_findIn X hi) hb (.inr ⟨rfl, rfl⟩) h
end
def putF (f : Str) (v : V) : List (Str × V) → List (Str × V)
  | [] => [(f, v)]
  | (g, x) :: r => if g = f then (g, v) :: r else (g, x) :: putF f v r
theorem lookup_putF (f g : Str) (v : V) : ∀ fs : List (Str × V), (putF f v fs).lookup g = if g = f then some v else fs.lookup g
  | [] => by
    show List.lookup g [(f, v)] = _
    by_cases h : g = f
    · have hb : (g == f) = true := beq_iff_eq.mpr h
      simp only [List.lookup, hb, if_pos h]
    · have hb : (g == f) = false := beq_eq_false_iff_ne.mpr h
      simp only [List.lookup, hb, if_neg h]
  | (k, x) :: r => by
    have ih := lookup_putF f g v r
    rw [show putF f v ((k, x) :: r) = (if k = f then (k, v) :: r else (k, x) :: putF f v r) from rfl]
    by_cases hk : k = f
    · rw [if_pos hk]
      by_cases h : g = k
      · have hb : (g == k) = true := beq_iff_eq.mpr h
        simp only [List.lookup, hb, if_pos (h.trans hk)]
      · have hb : (g == k) = false := beq_eq_false_iff_ne.mpr h
        simp only [List.lookup, hb, if_neg (fun e : g = f => h (e.trans hk.symm))]
    · rw [if_neg hk]
      by_cases h : g = k
      · have hb : (g == k) = true := beq_iff_eq.mpr h
        simp only [List.lookup, hb, if_neg (fun e : g = f => hk (h.symm.trans e))]
      · have hb : (g == k) = false := beq_eq_false_iff_ne.mpr h
        simp only [List.lookup, hb]
        exact ih
theorem keys_putF (f : Str) (v : V) : ∀ fs : List (Str × V), f ∈ (putF f v fs).map (·.1) ∧ ∀ g, g ∈ fs.map (·.1) → g ∈ (putF f v fs).map (·.1)
  | [] => ⟨by simp [putF], fun g h => by simp at h⟩
  | (k, x) :: r => by
    obtain ⟨i1, i2⟩ := keys_putF f v r
    rw [show putF f v ((k, x) :: r) = (if k = f then (k, v) :: r else (k, x) :: putF f v r) from rfl]
    by_cases hk : k = f
    · rw [if_pos hk]
      subst hk
      exact ⟨by simp, fun g h => by simpa using h⟩
    · rw [if_neg hk]
      refine ⟨?_, fun g h => ?_⟩
      · rw [List.map_cons]
        exact List.mem_cons_of_mem _ i1
      · rw [List.map_cons] at h ⊢
        rcases List.mem_cons.mp h with e | e
        · exact List.mem_cons.mpr (.inl e)
        · exact List.mem_cons_of_mem _ (i2 g e)
theorem length_putF (f : Str) (v : V) : ∀ fs : List (Str × V), (putF f v fs).length ≤ fs.length + 1
  | [] => by simp [putF]
  | (k, x) :: r => by
    have ih := length_putF f v r
    rw [show putF f v ((k, x) :: r) = (if k = f then (k, v) :: r else (k, x) :: putF f v r) from rfl]
    by_cases hk : k = f
    · rw [if_pos hk, List.length_cons, List.length_cons]; omega
    · rw [if_neg hk, List.length_cons, List.length_cons]; omega
theorem RelO.some_of {v : V} {o : Option Value} (r : RelO (some v) o) : ∃ u, o = some u ∧ RelV v u := by
  cases o with
  | none => exact (show False from r).elim
  | some u => exact ⟨u, rfl, r⟩
theorem RelO.none_of {o : Option Value} (r : RelO none o) : o = none := by
  cases o with
  | none => rfl
  | some u => exact (show False from r).elim
theorem handed_of {v : V} {u : Value} (r : RelV v u) : PySem.W.handedIn u = true := by
  cases v with
  | non => cases (show u = Value.none from r); rfl
  | bl b => cases (show u = Value.bool b from r); rfl
  | int i => obtain ⟨t, e⟩ := (show ∃ t, u = Value.int i t from r); cases e; rfl
  | str x => obtain ⟨t, e⟩ := (show ∃ t, u = Value.str x t from r); cases e; rfl
  | byt b => obtain ⟨t, e⟩ := (show ∃ t, u = Value.bytes b t from r); cases e; rfl
  | flt b => obtain ⟨t, e⟩ := (show ∃ t, u = Value.float b t from r); cases e; rfl
  | ref a => cases (show u = Value.ref a from r); rfl
  | ty n => cases (show u = Value.type n from r); rfl
section
variable {P : Program} {w : World} {H H' : Hp} {h h' : Heap} {a C dx : Addr} {fs fs' : List (Str × V)}
theorem ins_get (hok : HOk P w H h) (e : H a = some (.ins C dx fs)) : ∃ mA, ObjM h a dx C mA ∧ (∀ f, RelO (fs.lookup f) (mA f)) ∧ PySem.Within mA (fs.map (·.1)) ∧ fs.length ≤ 1000 ∧ H dx = some (.own a) := by
  obtain ⟨d, z, ne, ob, mA, n, r, q⟩ := (show ObjOk P w H h a (.ins C dx fs) from hok a _ e)
  exact ⟨mA, ⟨ob, n, ne⟩, r, q, z, d⟩
end
structure Cls (K : PySem.W.Frag) (C : Addr) : Prop where
  pg : PySem.W.plainGet K C Str.empty = true
  hd : PySem.W.hasDictIn K C = true
  po : PySem.W.plainOver K C = true
  sa : PySem.W.findIn K (.ref C) "__setattr__" = some (some (.builtin "object.__setattr__"))
theorem Cls.get {K : PySem.W.Frag} {C : Addr} (c : Cls K C) (f : Str) : PySem.W.plainGet K C f = true := c.pg
def NoAttr (K : PySem.W.Frag) (C : Addr) (f : Str) : Prop := PySem.W.findIn K (.ref C) f = some none
theorem NoAttr.taker {K : PySem.W.Frag} {C : Addr} {f : Str} (n : NoAttr K C f) : PySem.W.takerIn K C f = some none := by
  unfold PySem.W.takerIn
  rw [show PySem.W.findIn K (.ref C) f = some none from n]
  rfl
structure Con (K : PySem.W.Frag) (C : Addr) (f : Str) (v : V) (u : Value) : Prop where
  at_ : PySem.W.findIn K (.ref C) f = some (some u)
  rel : RelV v u
  get : PySem.W.specialIn K u "__get__" = some none
  cp : PySem.W.copiedNames.contains f = false
structure Meth (K : PySem.W.Frag) (C : Addr) (m : Str) (f : Addr) : Prop where
  at_ : PySem.W.findIn K (.ref C) m = some (some (.ref f))
  fn : PySem.W.isFn K (.ref f) = true
  kp : PySem.W.keepIn K (.ref f) = true
section
variable {X : Cx} {pins : List (Addr × Obj)} {σ : St} {H : Hp} {s : Shared} {a C dx : Addr} {fs : List (Str × V)} {f : Str} {v : V} {A : Around} {E : Value → Shared → Prop}
theorem getattr_ok {b : Bool} {Q : Value → Shared → Prop} (I : Inv X pins σ H s) (e : H a = some (.ins C dx fs)) (c : Cls X.K C) (n : NoAttr X.K C f) (l : fs.lookup f = some v)
    (h : ∀ u s', Inv X pins σ H s' → RelV v u → Q u s') : wpAny (model X.prog X.w) A (getAttr (.ref a) f b) Q E s := by
  obtain ⟨mA, O, r, _, _, _⟩ := ins_get I.hok e
  obtain ⟨u, hu, ru⟩ := RelO.some_of (v := v) (o := mA f) (by rw [← l]; exact r f)
  exact get_map I.kIn O (c.get f) c.hd n hu (handed_of ru) (h u _ (I.tok _) ru)
theorem getcon_ok {b : Bool} {u : Value} {Q : Value → Shared → Prop} (I : Inv X pins σ H s) (e : H a = some (.ins C dx fs)) (c : Cls X.K C) (k : Con X.K C f v u) (l : fs.lookup f = none)
    (h : ∀ s', Inv X pins σ H s' → Q u s') : wpAny (model X.prog X.w) A (getAttr (.ref a) f b) Q E s := by
  obtain ⟨mA, O, r, _, _, _⟩ := ins_get I.hok e
  have hn : mA f = none := RelO.none_of (by rw [← l]; exact r f)
  exact get_const I.kIn O (c.get f) c.hd k.at_ k.get k.cp hn (handed_of k.rel) (h _ (I.tok _))
theorem getmeth_ok {m : Str} {g : Addr} {pl : Sem Bool} {Q : Value × List Value → Shared → Prop} (I : Inv X pins σ H s) (e : H a = some (.ins C dx fs)) (c : Cls X.K C) (k : Meth X.K C m g) (l : fs.lookup m = none)
    (h : Q (.ref g, [.ref a]) s) : wpAny (model X.prog X.w) A (getMethod (.ref a) m pl) Q E s := by
  obtain ⟨mA, O, r, _, _, _⟩ := ins_get I.hok e
  have hn : mA m = none := RelO.none_of (by rw [← l]; exact r m)
  exact get_meth I.kIn O (c.get m) k.at_ k.fn hn h
theorem setattr_ok {y : V} {u : Value} {Q : Unit → Shared → Prop} (I : Inv X pins σ H s) (e : H a = some (.ins C dx fs)) (c : Cls X.K C) (n : NoAttr X.K C f) (hl : fs.length < 1000) (ry : RelV y u)
    (h : ∀ s', Inv X pins σ (upd H a (.ins C dx (putF f y fs))) s' → Q () s') : wpAny (model X.prog X.w) A (setAttr (.ref a) f u) Q E s := by
  obtain ⟨mA, O, r, wi, _, ho⟩ := ins_get I.hok e
  have hz : (fs.map (·.1)).length ≤ sizeLine := by rw [List.length_map, sizeLine_eq]; omega
  refine set_map I.kIn O c.sa c.po n.taker c.hd wi hz fun h' O' sb => h _ ?_
  have hd : ∃ o, h'.get? dx = some o := let ⟨o, _, _, e', _⟩ := O'.ns; ⟨o, e'⟩
  refine I.write (x := a) (e := dx) (by rw [e]; exact True.intro) (.inr ho) (fun b q hb z => (sb.2 b hb).trans z) hd ?_
  refine ⟨by rw [upd_ne O.ne]; exact ho, ?_, O.ne, O'.obj, _, O'.ns, fun g => ?_, fun g hg => ?_⟩
  · have := length_putF f y fs; omega
  · show RelO ((putF f y fs).lookup g) (if g = f then some u else mA g)
    rw [lookup_putF]
    by_cases q : g = f
    · rw [if_pos q, if_pos q]; exact ry
    · rw [if_neg q, if_neg q]; exact r g
  · by_cases q : g = f
    · rw [q]; exact (keys_putF f y fs).1
    · refine (keys_putF f y fs).2 g (wi g fun z => hg ?_)
      show (if g = f then some u else mA g) = none
      rw [if_neg q]; exact z
theorem Inv.made (I : Inv X pins σ H s) : Inv X pins σ (upd (upd H s.heap.objs.size (.own (s.heap.objs.size + 1))) (s.heap.objs.size + 1) (.ins C s.heap.objs.size []))
    { s with heap := (s.heap.push PySem.W.emptyDict).push (PySem.W.instObj C s.heap.objs.size) } := by
  have e1 : (s.heap.push PySem.W.emptyDict).get? s.heap.objs.size = some PySem.W.emptyDict := Heap.get?_push_size s.heap rfl
  have e2 : ((s.heap.push PySem.W.emptyDict).push (PySem.W.instObj C s.heap.objs.size)).get? (s.heap.objs.size + 1) = some (PySem.W.instObj C s.heap.objs.size) := by
    have := Heap.get?_push_size (s.heap.push PySem.W.emptyDict) (o := PySem.W.instObj C s.heap.objs.size) rfl
    rwa [Heap.size_push] at this
  have e3 : (s.heap.push PySem.W.emptyDict).Ns s.heap.objs.size (fun _ => none) := ⟨PySem.W.emptyDict, #[], _, e1, rfl, (fun e he => absurd he (by simp)), fun _ => rfl⟩
  have I1 := I.laid (a := s.heap.objs.size) (o := .own (s.heap.objs.size + 1)) (h' := s.heap.push PySem.W.emptyDict) (t' := s.toks) (fun b u q => Heap.get?_push_of_some _ q) (Nat.le_refl _) ⟨_, e1⟩
  refine I1.laid (a := s.heap.objs.size + 1) (o := .ins C s.heap.objs.size []) (t' := s.toks) (fun b u q => Heap.get?_push_of_some _ q) (Nat.le_of_eq (Heap.size_push _ _)) ?_
  have ne : s.heap.objs.size ≠ s.heap.objs.size + 1 := Nat.ne_of_lt (Nat.lt_succ_self _)
  refine ⟨by rw [upd_ne ne, upd_same], Nat.zero_le _, ne, e2, fun _ => none, (Heap.Ns1.of_empty e3).at fun o q => Heap.get?_push_of_some _ q, fun _ => True.intro, fun y hy => absurd rfl hy⟩
theorem attr_of {prog : Program} {w : World} {env : Env} {e : Expr} {f : Str} {pos : Pos} {s : Shared} {Q : Value → Shared → Prop} (hb : attributeBase e f env (eval e env) = eval e env)
    (h : wpAny (model prog w) A (eval e env) (fun o s₁ => wpAny (model prog w) A (getAttr o f true) Q E s₁) E s) : wpAny (model prog w) A (eval (.Attribute e f pos) env) Q E s :=
  Attribute_any_ h (by rw [arm_eval_Attribute, hb])
end
def tFld (K : PySem.W.Frag) (ta : TE) (f : Str) : TE := fun σ H Q => ta σ H fun x H1 => ∃ a C dx fs v, x = .ref a ∧ H1 a = some (.ins C dx fs) ∧ Cls K C ∧ NoAttr K C f ∧ fs.lookup f = some v ∧ Q v H1
def tCon (K : PySem.W.Frag) (ta : TE) (f : Str) : TE := fun σ H Q => ta σ H fun x H1 => ∃ a C dx fs v u, x = .ref a ∧ H1 a = some (.ins C dx fs) ∧ Cls K C ∧ Con K C f v u ∧ fs.lookup f = none ∧ Q v H1
def sFld (K : PySem.W.Frag) (ta tv : TE) (f : Str) : TS := fun D σ H => tv σ H fun y H1 => ta σ H1 fun x H2 => ∃ a C dx fs, x = .ref a ∧ H2 a = some (.ins C dx fs) ∧ Cls K C ∧ NoAttr K C f ∧ fs.length < 1000 ∧
  D.nx σ (upd H2 a (.ins C dx (putF f y fs)))
def InOp (X : Cx) (op : Operator) (rd : V → V → Hp → VK → Prop) : Prop :=
  ∀ (pins : List (Addr × Obj)) (s : Shared) (σ : St) (H : Hp) (x y : V) (u v : Value) (Q : VK), Inv X pins σ H s → RelV x u → RelV y v → rd x y H Q → wpAny (model X.prog X.w) X.A (inplaceOp op u v) (EP X pins σ Q) X.xe s
def sFldAug (K : PySem.W.Frag) (ta tv : TE) (rd : V → V → Hp → VK → Prop) (f : Str) : TS := fun D σ H => ta σ H fun x H1 => ∃ a C dx fs v, x = .ref a ∧ H1 a = some (.ins C dx fs) ∧ Cls K C ∧ NoAttr K C f ∧ fs.lookup f = some v ∧
  tv σ H1 fun y H2 => rd v y H2 fun z H3 => ∃ dx' fs', H3 a = some (.ins C dx' fs') ∧ fs'.length < 1000 ∧ D.nx σ (upd H3 a (.ins C dx' (putF f z fs')))
section
variable {X : Cx} {o e value : Expr} {f : Str} {pos pos' tpos : Pos} {ta tv : TE}
theorem pe_fld (he : PE X e ta) (hb : attributeBase e f X.env (eval e X.env) = eval e X.env) : PE X (.Attribute e f pos) (tFld X.K ta f) := by
  intro pins s σ H Q I h
  refine attr_of hb (thn (he pins s σ H _ I h) fun u s1 ⟨x, H1, I1, rx, a, C, dx, fs, v, ex, ea, c, n, l, q⟩ => ?_)
  subst ex
  obtain rfl : u = Value.ref a := rx
  exact getattr_ok I1 ea c n l fun u' s2 I2 ru => ⟨v, H1, I2, ru, q⟩
theorem pe_con (he : PE X e ta) (hb : attributeBase e f X.env (eval e X.env) = eval e X.env) : PE X (.Attribute e f pos) (tCon X.K ta f) := by
  intro pins s σ H Q I h
  refine attr_of hb (thn (he pins s σ H _ I h) fun u s1 ⟨x, H1, I1, rx, a, C, dx, fs, v, u0, ex, ea, c, k, l, q⟩ => ?_)
  subst ex
  obtain rfl : u = Value.ref a := rx
  exact getcon_ok I1 ea c k l fun s2 I2 => ⟨v, H1, I2, k.rel, q⟩
theorem ps_fld (ha : PE X o ta) (hv : PE X value tv) (hs : swapsWith value (some (.Attribute o f pos')) pos.line X.env = pure false) : PS X (.Assign [.Attribute o f pos'] value pos) (sFld X.K ta tv f) := by
  intro pins s σ H D I h
  refine plainObj_wpAny_Assign_Attribute (thn (hv pins s σ H _ I h) fun u s1 ⟨y, H1, I1, ry, q⟩ => thn (ha pins s1 σ H1 _ I1 q) fun ov s2 ⟨x, H2, I2, rx, a, C, dx, fs, ex, ea, c, n, l, q2⟩ => ?_) hs
  subst ex
  obtain rfl : ov = Value.ref a := rx
  exact setattr_ok I2 ea c n l ry fun s3 I3 => ⟨σ, _, I3, q2⟩
theorem ps_fldaug {op : Operator} {rd : V → V → Hp → VK → Prop} (ha : PE X o ta) (hv : PE X value tv) (hop : InOp X op rd) : PS X (.AugAssign (.Attribute o f tpos) op value pos) (sFldAug X.K ta tv rd f) := by
  intro pins s σ H D I h
  refine wpAny_AugAssign_AttributeAny (thn (ha pins s σ H _ I h) fun ov s1 ⟨x, H1, I1, rx, a, C, dx, fs, v, ex, ea, c, n, l, q⟩ => ?_)
  subst ex
  obtain rfl : ov = Value.ref a := rx
  refine getattr_ok I1 ea c n l fun u s2 I2 ru => thn (hv pins s2 σ H1 _ I2 q) fun w3 s3 ⟨y, H2, I3, ry, q3⟩ => thn (hop pins s3 σ H2 v y u w3 _ I3 ru ry q3) fun w4 s4 ⟨z, H3, I4, rz, dx', fs', ea', l', q4⟩ => ?_
  exact setattr_ok I4 ea' c n l' rz fun s5 I5 => ⟨σ, _, I5, q4⟩
def rAdd : V → V → Hp → VK → Prop := fun x y H Q => ∃ i j, x = .int i ∧ y = .int j ∧ Q (.int (i + j)) H
def rSub : V → V → Hp → VK → Prop := fun x y H Q => ∃ i j, x = .int i ∧ y = .int j ∧ Q (.int (i - j)) H
theorem in_add : InOp X .Add rAdd := by
  rintro pins s σ H x y u v Q I rx ry ⟨i, j, rfl, rfl, q⟩
  obtain ⟨t, rfl⟩ := (show ∃ t, u = Value.int i t from rx)
  obtain ⟨t', rfl⟩ := (show ∃ t', v = Value.int j t' from ry)
  exact PyProof.Rows.iadd_int ⟨.int (i + j), H, I.tok _, ⟨_, rfl⟩, q⟩
theorem in_sub : InOp X .Sub rSub := by
  rintro pins s σ H x y u v Q I rx ry ⟨i, j, rfl, rfl, q⟩
  obtain ⟨t, rfl⟩ := (show ∃ t, u = Value.int i t from rx)
  obtain ⟨t', rfl⟩ := (show ∃ t', v = Value.int j t' from ry)
  exact PyProof.Rows.isub_int ⟨.int (i - j), H, I.tok _, ⟨_, rfl⟩, q⟩
theorem methcall_of {pl : Sem Bool} {m : Str} {apos : Pos} {args : List Expr} {pins : List (Addr × Obj)} {s : Shared} {σ : St} {H : Hp} {Q : Value → Shared → Prop} {te : TE} (he : PE X e te) (I : Inv X pins σ H s)
    (h : te σ H fun x H1 => ∃ a C dx fs g, x = .ref a ∧ H1 a = some (.ins C dx fs) ∧ Cls X.K C ∧ Meth X.K C m g ∧ fs.lookup m = none ∧
      ∀ s1, Inv X pins σ H1 s1 → wpAny (model X.prog X.w) X.A (callWith pos (.ref g) [.ref a] (backTo pos (starEach args X.env)) (backToKw pos (keywordEach [] X.env))) Q X.xe s1)
    (ht : eval (.Call (.Attribute e m apos) args [] pos) X.env = (do
      let ov ← eval e X.env
      standAt apos.atName
      let (f, first) ← holding [ov] (getMethod ov m pl)
      callWith pos f first (backTo pos (starEach args X.env)) (backToKw pos (keywordEach [] X.env)))) :
    wpAny (model X.prog X.w) X.A (eval (.Call (.Attribute e m apos) args [] pos) X.env) Q X.xe s := by
  refine PySem.W.methodCall_KW (pl := pl) (thn (he pins s σ H _ I h) fun u s1 ⟨x, H1, I1, rx, a, C, dx, fs, g, ex, ea, c, k, l, q⟩ => ?_) ht
  subst ex
  obtain rfl : u = Value.ref a := rx
  exact getmeth_ok I1 ea c k l (q s1 I1)
end
section
variable {X : Cx} {pins : List (Addr × Obj)} {σ : St} {H : Hp} {s : Shared} {A : Around} {E : Value → Shared → Prop} {Q : Value → Shared → Prop} {c : Value} {b : Bool}
inductive TyOf (K : PySem.W.Frag) (H : Hp) : V → Value → Prop where
  | non : TyOf K H .non (.type "NoneType")
  | bl (x : Bool) : TyOf K H (.bl x) (.type "bool")
  | int (i : Int) : TyOf K H (.int i) (.type "int")
  | str (x : Str) : TyOf K H (.str x) (.type "str")
  | flt (x : UInt64) : TyOf K H (.flt x) (.type "float")
  | lst {a : Addr} {xs : List V} (e : H a = some (.lst xs)) : TyOf K H (.ref a) (.type "list")
  | frz {a : Addr} {o : Obj} {xs : List V} (e : H a = some (.frz o (.lst xs))) : TyOf K H (.ref a) (.type "list")
  | tup {a : Addr} {xs : List V} (e : H a = some (.tup xs)) : TyOf K H (.ref a) (.type "tuple")
  | dK {a : Addr} {kvs : List (Key × V)} (e : H a = some (.dK kvs)) : TyOf K H (.ref a) (.type "dict")
  | dT {a : Addr} {kvs : List (List Key × V)} (e : H a = some (.dT kvs)) : TyOf K H (.ref a) (.type "dict")
  | ins {a C dx : Addr} {fs : List (Str × V)} (e : H a = some (.ins C dx fs)) (cl : Cls K C) (ha : PySem.W.findIn K (.ref C) "__class__" = some (some (.builtin "object.__class__")))
      (hn : PySem.W.specialIn K (.builtin "object.__class__") "__get__" = some (some (.builtin "getset_descriptor.__get__"))) (htk : PySem.W.takesIn K (.builtin "object.__class__") = some true)
      (hm : PySem.W.mroIn K C (.type "object") = some true) : TyOf K H (.ref a) (.ref C)
theorem isinst_ok {x : V} {u t : Value} (I : Inv X pins σ H s) (rx : RelV x u) (ty : TyOf X.K H x t) (e : PySem.W.kitOne X.K t c = some b) (h : ∀ tk, Q (.bool b) { s with toks := tk }) :
    wpAny (model X.prog X.w) A (call (.builtin "isinstance") [u, c]) Q E s := by
  cases ty with
  | non => cases (show u = Value.none from rx); exact PySem.W.kia_one PySem.W.kitx_none I.kIn True.intro e (fun z => nomatch z) h
  | bl y => cases (show u = Value.bool y from rx); exact PySem.W.kia_one PySem.W.kitx_bool I.kIn True.intro e (fun z => nomatch z) h
  | int i => obtain ⟨t, q⟩ := (show ∃ t, u = Value.int i t from rx); cases q; exact PySem.W.kia_one PySem.W.kitx_int I.kIn True.intro e (fun z => nomatch z) h
  | str y => obtain ⟨t, q⟩ := (show ∃ t, u = Value.str y t from rx); cases q; exact PySem.W.kia_one PySem.W.kitx_str I.kIn True.intro e (fun z => nomatch z) h
  | flt y => obtain ⟨t, q⟩ := (show ∃ t, u = Value.float y t from rx); cases q; exact PySem.W.kia_one PySem.W.kitx_float I.kIn True.intro e (fun z => nomatch z) h
  | @lst a xs ea =>
    cases (show u = Value.ref a from rx)
    obtain ⟨_, _, n, _, h1⟩ := (show ObjOk X.prog X.w H s.heap a (.lst xs) from I.hok a _ ea)
    exact PySem.W.kia_one PySem.W.kitx_list I.kIn ⟨_, h1, rfl⟩ e (fun z => nomatch z) h
  | @frz a ob xs ea =>
    cases (show u = Value.ref a from rx)
    obtain ⟨_, _, _, n, _, h1⟩ := (show ObjOk X.prog X.w H s.heap a (.frz ob (.lst xs)) from I.hok a _ ea)
    exact PySem.W.kia_one PySem.W.kitx_list I.kIn ⟨_, h1, rfl⟩ e (fun z => nomatch z) h
  | @tup a xs ea =>
    cases (show u = Value.ref a from rx)
    obtain ⟨_, _, _, p⟩ := (show ObjOk X.prog X.w H s.heap a (.tup xs) from I.hok a _ ea)
    obtain ⟨o, h1, h2, _⟩ := p
    exact PySem.W.kia_one PySem.W.kitx_tuple I.kIn ⟨o, h1, h2⟩ e (fun z => nomatch z) h
  | @dK a kvs ea =>
    cases (show u = Value.ref a from rx)
    obtain ⟨_, _, vs, _, p⟩ := (show ObjOk X.prog X.w H s.heap a (.dK kvs) from I.hok a _ ea)
    obtain ⟨o, es, ep, h1, h2, _⟩ := p
    exact PySem.W.kia_one PySem.W.kitx_dict I.kIn ⟨o, h1, h2.1⟩ e (fun z => nomatch z) h
  | @dT a kvs ea =>
    cases (show u = Value.ref a from rx)
    obtain ⟨_, _, xs, _, o, es, ep, h1, h2, _⟩ := (show ObjOk X.prog X.w H s.heap a (.dT kvs) from I.hok a _ ea)
    exact PySem.W.kia_one PySem.W.kitx_dict I.kIn ⟨o, h1, h2.1⟩ e (fun z => nomatch z) h
  | @ins a C dx fs ea cl ha hn htk hm =>
    cases (show u = Value.ref a from rx)
    obtain ⟨mA, O, _⟩ := ins_get I.hok ea
    obtain ⟨od, J, _⟩ := O.look
    exact PySem.W.kia_one (PySem.W.kitx_own (cl.get _) cl.hd ha hn htk hm) I.kIn J e (fun z => nomatch z) h
end
end L2
namespace L2
open PySem PySem.Spec PyProof.Rows
structure Room (k : Nat) (A : Around) : Prop where
  hd : A.handled = none
  dp : A.depth + 3 * k + 5 < recursionLimit
  un : A.units + 16 * k + 200 < cLine
theorem Room.mono {j k : Nat} {A : Around} (r : Room k A) (h : j ≤ k) : Room j A := ⟨r.hd, by have := r.dp; omega, by have := r.un; omega⟩
theorem Room.deeper {k : Nat} {A : Around} (r : Room (k + 1) A) (env : Env) : Room k (A.deeper env) :=
  ⟨r.hd, by have := r.dp; show A.depth + 1 + 3 * k + 5 < _; omega, by have := r.un; show A.units + 3 + 16 * k + 200 < _; omega⟩
theorem Room.in1 {k : Nat} {A : Around} (r : Room (k + 1) A) : Room k A.in1 :=
  ⟨r.hd, by have := r.dp; show A.depth + 3 * k + 5 < _; omega, by have := r.un; show A.units + 1 + 16 * k + 200 < _; omega⟩
theorem make_depth {A : Around} {C : Addr} {us : List Value} {kw : List (Str × Value)} : (A.under (.builtin "type.__call__" ⟨.ref C :: us, kw⟩)).depth = A.depth + 1 := by
  first | rfl | simp [Around.under, Code.weight, Code.isCreation, Code.isGuard, Code.isCaller, Code.frames, Code.isFrame, guardIds]
theorem make_units {A : Around} {C : Addr} {us : List Value} {kw : List (Str × Value)} : (A.under (.builtin "type.__call__" ⟨.ref C :: us, kw⟩)).units = A.units + 1 := by
  first | rfl | simp [Around.under, Code.cUnits, Code.frames, Code.isFrame]
theorem Room.make {k : Nat} {A : Around} (r : Room (k + 1) A) (C : Addr) (us : List Value) (kw : List (Str × Value)) : Room k (A.under (.builtin "type.__call__" ⟨.ref C :: us, kw⟩)) :=
  ⟨r.hd, by have := r.dp; rw [make_depth]; omega, by have := r.un; rw [make_units]; omega⟩
theorem Room.depth {k : Nat} {A : Around} (r : Room k A) : A.depth < recursionLimit := by have := r.dp; omega
theorem Room.units {k : Nat} {A : Around} (r : Room k A) : A.units + 64 < cLine := by have := r.un; omega
theorem Room.units0 {k : Nat} {A : Around} (r : Room k A) : A.units < cLine := by have := r.un; omega
def tNil : TA := fun _ H Q => Q [] H
def tCons (ta : TE) (tr : TA) : TA := fun σ H Q => ta σ H fun x H1 => tr σ H1 fun xs H2 => Q (x :: xs) H2
section
variable {X : Cx} {e : Expr} {es : List Expr} {te : TE} {t : TA} {pos : Pos}
theorem pa_nil : PA X [] tNil := fun _ _ _ _ H Q I h => Calls.spliced_nil ⟨[], H, I, .nil, h⟩
theorem pa_cons (ha : PE X e te) (hr : PA X es t) (hs : starEach (e :: es) X.env = (false, eval e X.env) :: starEach es X.env := by rfl) : PA X (e :: es) (tCons te t) := by
  intro pos pins s σ H Q I h
  rw [hs]
  show wpAny _ _ (spliced ((false, eval e X.env) :: backTo pos (starEach es X.env))) _ _ s
  refine Calls.spliced_cons (thn (ha pins s σ H _ I h) fun u s1 ⟨x, H1, I1, r1, q1⟩ => ?_)
  exact thn (hr pos pins s1 σ H1 _ I1 q1) fun us s2 ⟨xs, H2, I2, r2, q2⟩ => ⟨x :: xs, H2, I2, .cons r1 r2, q2⟩
def tTup (t : TA) : TE := fun σ H Q => t σ H fun xs H1 => xs.length ≤ sizeLine ∧ ∀ p, H1 p = none → Q (.ref p) (upd H1 p (.tup xs))
def tLst (t : TA) : TE := fun σ H Q => t σ H fun xs H1 => xs.length ≤ sizeLine ∧ ∀ p, H1 p = none → Q (.ref p) (upd H1 p (.lst xs))
theorem pe_tup {x1} (h : PA X es t) : PE X (.Tuple es x1 pos) (tTup t) := by
  intro pins s σ H Q I hq
  refine wpAny_Tuple_spliced (thn (h pos pins s σ H _ I hq) fun us s1 ⟨xs, H1, I1, r, z, q⟩ => ⟨by rw [← r.length]; exact z, ?_⟩)
  have hf : H1 s1.heap.objs.size = none := I1.hok.fresh (Nat.le_refl _)
  refine ⟨.ref s1.heap.objs.size, upd H1 s1.heap.objs.size (.tup xs), I1.laid (t' := s1.toks) (fun b u e => Heap.get?_push_of_some _ e) (Nat.le_refl _) ?_, rfl, q _ hf⟩
  exact ⟨z, us, r, ⟨_, Heap.get?_push_size _ rfl, rfl, _, rfl⟩⟩
theorem pe_lst (h : PA X es t) : PE X (.List es pos) (tLst t) := by
  intro pins s σ H Q I hq
  refine wpAny_List_spliced (thn (h pos pins s σ H _ I hq) fun us s1 ⟨xs, H1, I1, r, z, q⟩ => ⟨by rw [← r.length]; exact z, ?_⟩)
  have hf : H1 s1.heap.objs.size = none := I1.hok.fresh (Nat.le_refl _)
  refine ⟨.ref s1.heap.objs.size, upd H1 s1.heap.objs.size (.lst xs), I1.laid (t' := s1.toks) (fun b u e => Heap.get?_push_of_some _ e) (Nat.le_refl _) ?_, rfl, q _ hf⟩
  exact ⟨z, us, 0, r, Heap.get?_push_size _ rfl⟩
end
abbrev Sp := List V → Hp → VK → XK → Prop
abbrev CXT := List Env → Hp → Shared → XK → Value → Shared → Prop
structure Env0 (P : Program) (w : World) (K : PySem.W.Frag) (mg : Str → Option Value) (base : Heap) (A : Around) (outer : List Env) (s : Shared) (H : Hp) : Prop where
  frames : A.frames = some outer
  mod : Mod K mg base
  bs : ∀ b o, base.get? b = some o → s.heap.get? b = some o ∧ H b = none
  bsz : base.objs.size ≤ s.heap.objs.size
  funs : s.heap.FunFrames base outer
  frf : ∀ b ∈ frs outer, H b = none
  hok : HOk P w H s.heap
  bare : AllBare s.gens
def CE (outer : List Env) (P : Program) (w : World) (H : Hp) (s : Shared) (Q : VK) (u : Value) (s' : Shared) : Prop :=
  ∃ v H', s'.os = s.os ∧ AllBare s'.gens ∧ Un (frs outer) [] H H' s.heap s'.heap ∧ HOk P w H' s'.heap ∧ RelV v u ∧ Q v H'
def CR (CX : CXT) (outer : List Env) (P : Program) (w : World) (H : Hp) (s : Shared) (Q : VK) (E : XK) (r : Result) (s' : Shared) : Prop :=
  match r with
  | .ok (.ret u) => CE outer P w H s Q u s'
  | .ok _ => False
  | .error e => CX outer H s E e s'
structure FnOk (P : Program) (w : World) (K : PySem.W.Frag) (mg : Str → Option Value) (base : Heap) (CX : CXT) (k : Nat) (f : Addr) (fd : FuncData) (ps : List Str) (sp : Sp) : Prop where
  len : ∀ vs H Q E, sp vs H Q E → vs.length = ps.length
  run : ∀ (A : Around) (outer : List Env) (s : Shared) (H : Hp) (args : Args) (us : List Value) (vs : List V) (Q : VK) (E : XK), Room k A → Env0 P w K mg base A outer s H → BindsTo s fd args (ps.zip us) → Vals vs us → sp vs H Q E →
    codeAny (model P w) A (.call (.ref f) args) (CR CX outer P w H s Q E) s
theorem FnOk.mono {P : Program} {w : World} {K : PySem.W.Frag} {mg : Str → Option Value} {base : Heap} {CX : CXT} {j k : Nat} {f : Addr} {fd : FuncData} {ps : List Str} {sp : Sp} (F : FnOk P w K mg base CX j f fd ps sp) (h : j ≤ k) :
    FnOk P w K mg base CX k f fd ps sp := ⟨F.len, fun A outer s H args us vs Q E hr => F.run A outer s H args us vs Q E (hr.mono h)⟩
theorem FnOk.imp {P : Program} {w : World} {K : PySem.W.Frag} {mg : Str → Option Value} {base : Heap} {CX : CXT} {k : Nat} {f : Addr} {fd : FuncData} {ps : List Str} {sp sp' : Sp} (F : FnOk P w K mg base CX k f fd ps sp)
    (h : ∀ vs H Q E, sp' vs H Q E → sp vs H Q E) : FnOk P w K mg base CX k f fd ps sp' :=
  ⟨fun vs H Q E q => F.len vs H Q E (h _ _ _ _ q), fun A outer s H args us vs Q E hr he hb hv hs => F.run A outer s H args us vs Q E hr he hb hv (h _ _ _ _ hs)⟩
theorem Env0.make {P : Program} {w : World} {K : PySem.W.Frag} {mg : Str → Option Value} {base : Heap} {A : Around} {outer : List Env} {s : Shared} {H : Hp} (e : Env0 P w K mg base A outer s H) (C : Addr) (us : List Value) (kw : List (Str × Value)) :
    Env0 P w K mg base (A.under (.builtin "type.__call__" ⟨.ref C :: us, kw⟩)) outer s H := ⟨by first | exact e.frames | (simpa [Around.under, Code.envs, Code.isFrame, pushEnvs] using e.frames), e.mod, e.bs, e.bsz, e.funs, e.frf, e.hok, e.bare⟩
theorem Env0.in1 {P : Program} {w : World} {K : PySem.W.Frag} {mg : Str → Option Value} {base : Heap} {A : Around} {outer : List Env} {s : Shared} {H : Hp} (e : Env0 P w K mg base A outer s H) :
    Env0 P w K mg base A.in1 outer s H := ⟨e.frames, e.mod, e.bs, e.bsz, e.funs, e.frf, e.hok, e.bare⟩
section
variable {X : Cx} {pins : List (Addr × Obj)} {σ : St} {H : Hp} {s s' : Shared}
theorem Inv.env0 (I : Inv X pins σ H s) : Env0 X.prog X.w X.K X.mg X.base X.A X.stack s H :=
  ⟨I.ok.frames, I.ok.mod, I.bs, Nat.le_trans I.ok.bsz I.sz, I.stack, I.stkFree, I.hok, I.bare⟩
theorem Inv.after {Q : VK} {u : Value} (I : Inv X pins σ H s) (h : CE X.stack X.prog X.w H s Q u s') : EP X pins σ Q u s' := by
  obtain ⟨v, H', os, bare, un, hok, r, q⟩ := h
  obtain ⟨hh, g, d, t, os'⟩ := s'
  obtain rfl : os' = s.os := os
  exact ⟨v, H', I.call (h' := hh) (g' := g) (d' := d) (t' := t) (ch := []) un hok bare (fun b z => absurd z (by simp)), r, q⟩
end
def tCall (sp : Sp) (dvs : List V) (E : XK) (t : TA) : TE := fun σ H Q => t σ H fun vs H1 => sp (vs ++ dvs) H1 Q E
def tMeth (C : Addr) (m : Str) (sp : Sp) (dvs : List V) (E : XK) (ta : TE) (t : TA) : TE := fun σ H Q => ta σ H fun x H1 => ∃ a dx fs, x = .ref a ∧ H1 a = some (.ins C dx fs) ∧ fs.lookup m = none ∧
  t σ H1 fun vs H2 => sp (x :: (vs ++ dvs)) H2 Q E
def tMake (C : Addr) (sp : Sp) (dvs : List V) (E : XK) (t : TA) : TE := fun σ H Q => t σ H fun vs H1 => ∀ x dx, H1 x = none → H1 dx = none → dx ≠ x →
  sp (.ref x :: (vs ++ dvs)) (upd (upd H1 dx (.own x)) x (.ins C dx [])) (fun v H2 => v = .non ∧ Q (.ref x) H2) E
def Binds (K : PySem.W.Frag) (fd : FuncData) (ps : List Str) (ds : List Value) : Prop :=
  ∀ (s : Shared) (us : List Value), K.In s.heap → (us ++ ds).length = ps.length → BindsTo s fd ⟨us, []⟩ (ps.zip (us ++ ds))
theorem Binds.all {K : PySem.W.Frag} {fd : FuncData} {ps : List Str} (h : ∀ us : List Value, us.length = ps.length → bindArgs fd ⟨us, []⟩ = pure (ps.zip us)) : Binds K fd ps [] := fun s us _ hl => by
  rw [List.append_nil] at hl ⊢
  exact .of_eq (h us hl)
def Passes (CX : CXT) (X : Cx) (E : XK) : Prop := ∀ (pins : List (Addr × Obj)) (σ : St) (H : Hp) (s : Shared) (e : Value) (s' : Shared), Inv X pins σ H s → CX X.stack H s E e s' → X.xe e s'
section
variable {X : Cx} {CX : CXT} {k : Nat} {f C : Addr} {fd : FuncData} {ps : List Str} {sp : Sp} {dvs : List V} {ds : List Value} {E : XK} {x m : Str} {p pos apos : Pos} {e o : Expr} {es : List Expr} {ta : TE} {t : TA}
theorem run_fn {pins : List (Addr × Obj)} {σ : St} {H : Hp} {s : Shared} {Q : VK} {us : List Value} {vs : List V} (F : FnOk X.prog X.w X.K X.mg X.base CX k f fd ps sp) (hr : Room k X.A) (hb : Binds X.K fd ps ds) (hd : Vals dvs ds) (hx : Passes CX X E)
    (I : Inv X pins σ H s) (r : Vals vs us) (h : sp (vs ++ dvs) H Q E) : wpAny (model X.prog X.w) X.A (call (.ref f) us) (EP X pins σ Q) X.xe s := by
  have r2 : Vals (vs ++ dvs) (us ++ ds) := r.append hd
  have hl : (us ++ ds).length = ps.length := by rw [← r2.length]; exact F.len _ _ _ _ h
  refine wpAny_call (codeAny_mono (F.run X.A X.stack s H ⟨us, []⟩ (us ++ ds) (vs ++ dvs) Q E hr I.env0 (hb s us I.kIn hl) r2 h) fun r s' hq => ?_)
  cases r with
  | error e => exact hx pins σ H s e s' I hq
  | ok fl =>
    cases fl with
    | ret u => exact I.after hq
    | next => exact False.elim hq
    | brk => exact False.elim hq
    | cont => exact False.elim hq
theorem pe_call (F : FnOk X.prog X.w X.K X.mg X.base CX k f fd ps sp) (hr : Room k X.A) (hg : Gl X x) (hm : X.mg x = some (.ref f)) (hk : PySem.W.keepIn X.K (.ref f) = true) (hb : Binds X.K fd ps ds) (hd : Vals dvs ds) (hx : Passes CX X E)
    (ha : PA X (e :: es) t) (hdb : (x == ("__debug__" : Str)) = false := by decide) (he : starEach (e :: es) X.env = (false, eval e X.env) :: starEach es X.env := by rfl) (hpl : (backTo pos (starEach es X.env)).any (·.1) = false := by rfl) :
    PE X (.Call (.Name x p) (e :: es) [] pos) (tCall sp dvs E t) := by
  intro pins s σ H Q I h
  refine wpAny_Call_Name_kw (ld_glob I hg hm ?_ hdb)
  refine PySem.W.callWith_K (h₀ := X.base) I.ok.mod.kin hk (thn (ha pos pins s σ H _ I h) fun us s1 ⟨vs, H1, I1, r, q⟩ => ⟨I1.kIn, ?_⟩) he hpl
  exact run_fn F hr hb hd hx I1 r q
theorem pe_call0 (F : FnOk X.prog X.w X.K X.mg X.base CX k f fd ps sp) (hr : Room k X.A) (hg : Gl X x) (hm : X.mg x = some (.ref f)) (hk : PySem.W.keepIn X.K (.ref f) = true) (hb : Binds X.K fd ps ds) (hd : Vals dvs ds) (hx : Passes CX X E)
    (hdb : (x == ("__debug__" : Str)) = false := by decide) : PE X (.Call (.Name x p) [] [] pos) (tCall sp dvs E tNil) := by
  intro pins s σ H Q I h
  refine wpAny_Call_Name_kw (ld_glob I hg hm ?_ hdb)
  exact PySem.W.callWith_K0 I.kIn hk (run_fn (us := []) F hr hb hd hx I .nil h)
theorem pe_meth {pl : Sem Bool} (he : PE X o ta) (c : Cls X.K C) (hm : Meth X.K C m f) (F : FnOk X.prog X.w X.K X.mg X.base CX k f fd ps sp) (hr : Room k X.A) (hb : Binds X.K fd ps ds) (hd : Vals dvs ds) (hx : Passes CX X E) (ha : PA X (e :: es) t)
    (hst : starEach (e :: es) X.env = (false, eval e X.env) :: starEach es X.env := by rfl) (hpl : (backTo pos (starEach es X.env)).any (·.1) = false := by rfl)
    (ht : eval (.Call (.Attribute o m apos) (e :: es) [] pos) X.env = (do
      let ov ← eval o X.env
      standAt apos.atName
      let (f, first) ← holding [ov] (getMethod ov m pl)
      callWith pos f first (backTo pos (starEach (e :: es) X.env)) (backToKw pos (keywordEach [] X.env))) := by rfl) :
    PE X (.Call (.Attribute o m apos) (e :: es) [] pos) (tMeth C m sp dvs E ta t) := by
  intro pins s σ H Q I h
  refine PySem.W.methodCall_KW (pl := pl) (thn (he pins s σ H _ I h) fun u s1 ⟨x, H1, I1, rx, a, dx, fs, ex, ea, l, q⟩ => ?_) ht
  subst ex
  obtain rfl : u = Value.ref a := rx
  refine getmeth_ok I1 ea c hm l ?_
  refine PySem.W.callWith_K (first := [.ref a]) (h₀ := X.base) I.ok.mod.kin hm.kp (thn (ha pos pins s1 σ H1 _ I1 q) fun us s2 ⟨vs, H2, I2, r, q2⟩ => ⟨I2.kIn, ?_⟩) hst hpl
  exact run_fn (us := .ref a :: us) (vs := .ref a :: vs) F hr hb hd hx I2 (.cons rfl r) q2
theorem pe_meth0 {pl : Sem Bool} (he : PE X o ta) (c : Cls X.K C) (hm : Meth X.K C m f) (F : FnOk X.prog X.w X.K X.mg X.base CX k f fd ps sp) (hr : Room k X.A) (hb : Binds X.K fd ps ds) (hd : Vals dvs ds) (hx : Passes CX X E)
    (ht : eval (.Call (.Attribute o m apos) [] [] pos) X.env = (do
      let ov ← eval o X.env
      standAt apos.atName
      let (f, first) ← holding [ov] (getMethod ov m pl)
      callWith pos f first (backTo pos (starEach [] X.env)) (backToKw pos (keywordEach [] X.env))) := by rfl) :
    PE X (.Call (.Attribute o m apos) [] [] pos) (tMeth C m sp dvs E ta tNil) := by
  intro pins s σ H Q I h
  refine PySem.W.methodCall_KW (pl := pl) (thn (he pins s σ H _ I h) fun u s1 ⟨x, H1, I1, rx, a, dx, fs, ex, ea, l, q⟩ => ?_) ht
  subst ex
  obtain rfl : u = Value.ref a := rx
  refine getmeth_ok I1 ea c hm l ?_
  exact PySem.W.callWith_K0 (first := [.ref a]) I1.kIn hm.kp (run_fn (us := [.ref a]) (vs := [.ref a]) F hr hb hd hx I1 (.cons rfl .nil) q)
structure Mk (K : PySem.W.Frag) (C f : Addr) : Prop where
  makes : PySem.W.makesIn K C = true
  init : PySem.W.findIn K (.ref C) "__init__" = some (some (.ref f))
  fn : PySem.W.isFn K (.ref f) = true
  kp : PySem.W.keepIn K (.ref C) = true
theorem run_make {pins : List (Addr × Obj)} {σ : St} {H : Hp} {s : Shared} {Q : VK} {us : List Value} {vs : List V} (M : Mk X.K C f) (F : FnOk X.prog X.w X.K X.mg X.base CX k f fd ps sp) (hr : Room (k + 1) X.A) (hb : Binds X.K fd ps ds) (hd : Vals dvs ds)
    (hx : Passes CX X E) (I : Inv X pins σ H s) (r : Vals vs us)
    (h : ∀ x dx, H x = none → H dx = none → dx ≠ x → sp (.ref x :: (vs ++ dvs)) (upd (upd H dx (.own x)) x (.ins C dx [])) (fun v H2 => v = .non ∧ Q (.ref x) H2) E) :
    wpAny (model X.prog X.w) X.A (call (.ref C) us) (EP X pins σ Q) X.xe s := by
  have hq := h (s.heap.objs.size + 1) s.heap.objs.size (I.hok.fresh (Nat.le_succ _)) (I.hok.fresh (Nat.le_refl _)) (Nat.ne_of_lt (Nat.lt_succ_self _))
  have I2 := Inv.made (C := C) I
  have r2 : Vals (V.ref (s.heap.objs.size + 1) :: (vs ++ dvs)) (Value.ref (s.heap.objs.size + 1) :: (us ++ ds)) := .cons rfl (r.append hd)
  have hl : (Value.ref (s.heap.objs.size + 1) :: us ++ ds).length = ps.length := by
    have e := r2.length
    rw [F.len _ _ _ _ hq] at e
    exact e.symm
  refine wpAny_call (make_map (f := f) I.kIn M.makes M.init (beq_iff_eq.mp M.fn) (codeAny_mono (F.run _ X.stack _ _ ⟨Value.ref (s.heap.objs.size + 1) :: us, []⟩ (Value.ref (s.heap.objs.size + 1) :: (us ++ ds)) _ _ E (hr.make C us [])
    (I2.env0.make C us []) (hb _ (Value.ref (s.heap.objs.size + 1) :: us) I2.kIn hl) r2 hq) fun r s' hq' => ?_))
  cases r with
  | error e => exact hx pins σ _ _ e s' I2 hq'
  | ok fl =>
    cases fl with
    | ret u =>
      obtain ⟨v, H', I3, rv, ev, q3⟩ := I2.after hq'
      subst ev
      exact ⟨rv, ⟨V.ref (s.heap.objs.size + 1), H', I3, rfl, q3⟩⟩
    | next => exact False.elim hq'
    | brk => exact False.elim hq'
    | cont => exact False.elim hq'
theorem pe_make (M : Mk X.K C f) (F : FnOk X.prog X.w X.K X.mg X.base CX k f fd ps sp) (hr : Room (k + 1) X.A) (hg : Gl X x) (hm : X.mg x = some (.ref C)) (hb : Binds X.K fd ps ds) (hd : Vals dvs ds) (hx : Passes CX X E)
    (ha : PA X (e :: es) t) (hdb : (x == ("__debug__" : Str)) = false := by decide) (he : starEach (e :: es) X.env = (false, eval e X.env) :: starEach es X.env := by rfl) (hpl : (backTo pos (starEach es X.env)).any (·.1) = false := by rfl) :
    PE X (.Call (.Name x p) (e :: es) [] pos) (tMake C sp dvs E t) := by
  intro pins s σ H Q I h
  refine wpAny_Call_Name_kw (ld_glob I hg hm ?_ hdb)
  refine PySem.W.callWith_K (h₀ := X.base) I.ok.mod.kin M.kp (thn (ha pos pins s σ H _ I h) fun us s1 ⟨vs, H1, I1, r, q⟩ => ⟨I1.kIn, ?_⟩) he hpl
  exact run_make M F hr hb hd hx I1 r q
theorem pe_make0 (M : Mk X.K C f) (F : FnOk X.prog X.w X.K X.mg X.base CX k f fd ps sp) (hr : Room (k + 1) X.A) (hg : Gl X x) (hm : X.mg x = some (.ref C)) (hb : Binds X.K fd ps ds) (hd : Vals dvs ds) (hx : Passes CX X E)
    (hdb : (x == ("__debug__" : Str)) = false := by decide) : PE X (.Call (.Name x p) [] [] pos) (tMake C sp dvs E tNil) := by
  intro pins s σ H Q I h
  refine wpAny_Call_Name_kw (ld_glob I hg hm ?_ hdb)
  exact PySem.W.callWith_K0 I.kIn M.kp (run_make (us := []) M F hr hb hd hx I .nil h)
end
def PK (X : Cx) (kws : List Keyword) (t : TA) : Prop :=
  ∀ (pos : Pos) (pins : List (Addr × Obj)) (s : Shared) (σ : St) (H : Hp) (Q : List V → Hp → Prop), Inv X pins σ H s → t σ H Q → wpAny (model X.prog X.w) X.A (evalAll ((backToKw pos (keywordEach kws X.env)).map (·.2))) (AP X pins σ Q) X.xe s
section
variable {X : Cx} {CX : CXT} {k : Nat} {f C : Addr} {fd : FuncData} {ps ks : List Str} {sp : Sp} {E : XK} {x m : Str} {p pos apos kpos : Pos} {e o : Expr} {es : List Expr} {kws : List Keyword} {te ta : TE} {t tk : TA} {nm : Option Str}
theorem pk_nil : PK X [] tNil := fun _ _ _ _ H Q I h => wpAny_evalAll_nil ⟨[], H, I, .nil, h⟩
theorem pk_cons (ha : PE X e te) (hr : PK X kws t) : PK X (⟨nm, e, kpos⟩ :: kws) (tCons te t) := by
  intro pos pins s σ H Q I h
  show wpAny _ _ (evalAll ((do let v ← eval e X.env; standAt pos; pure v) :: (backToKw pos (keywordEach kws X.env)).map (·.2))) _ _ s
  refine wpAny_evalAll_cons (wpAny_bind (thn (ha pins s σ H _ I h) fun u s1 ⟨x, H1, I1, r1, q1⟩ => wpAny_bind (wpAny_standAt (wpAny_pure ?_))))
  exact thn (hr pos pins s1 σ H1 _ I1 q1) fun us s2 ⟨xs, H2, I2, r2, q2⟩ => ⟨x :: xs, H2, I2, .cons r1 r2, q2⟩
structure KBinds (K : PySem.W.Frag) (fd : FuncData) (ps ks : List Str) (g : List Value → List Value → List Value) (gV : List V → List V → List V) : Prop where
  to : ∀ (s : Shared) (us ws : List Value), K.In s.heap → (g us ws).length = ps.length → BindsTo s fd ⟨us, ks.zip ws⟩ (ps.zip (g us ws))
  rel : ∀ {vs : List V} {us : List Value} {zs : List V} {ws : List Value}, Vals vs us → Vals zs ws → Vals (gV vs zs) (g us ws)
def tCallK (sp : Sp) (gV : List V → List V → List V) (E : XK) (t tk : TA) : TE := fun σ H Q => t σ H fun vs H1 => tk σ H1 fun zs H2 => sp (gV vs zs) H2 Q E
variable {g : List Value → List Value → List Value} {gV : List V → List V → List V}
theorem run_fnk {pins : List (Addr × Obj)} {σ : St} {H : Hp} {s : Shared} {Q : VK} {us ws : List Value} {vs zs : List V} (F : FnOk X.prog X.w X.K X.mg X.base CX k f fd ps sp) (hr : Room k X.A) (hb : KBinds X.K fd ps ks g gV) (hx : Passes CX X E)
    (I : Inv X pins σ H s) (r : Vals vs us) (rz : Vals zs ws) (h : sp (gV vs zs) H Q E) : wpAny (model X.prog X.w) X.A (call (.ref f) us (ks.zip ws)) (EP X pins σ Q) X.xe s := by
  have r2 := hb.rel r rz
  have hl : (g us ws).length = ps.length := by rw [← r2.length]; exact F.len _ _ _ _ h
  refine wpAny_call (codeAny_mono (F.run X.A X.stack s H ⟨us, ks.zip ws⟩ (g us ws) (gV vs zs) Q E hr I.env0 (hb.to s us ws I.kIn hl) r2 h) fun r s' hq => ?_)
  cases r with
  | error e => exact hx pins σ H s e s' I hq
  | ok fl =>
    cases fl with
    | ret u => exact I.after hq
    | next => exact False.elim hq
    | brk => exact False.elim hq
    | cont => exact False.elim hq
theorem pe_callK (F : FnOk X.prog X.w X.K X.mg X.base CX k f fd ps sp) (hr : Room k X.A) (hg : Gl X x) (hm : X.mg x = some (.ref f)) (hk : PySem.W.keepIn X.K (.ref f) = true) (hb : KBinds X.K fd ps ks g gV) (hx : Passes CX X E)
    (ha : PA X (e :: es) t) (hkw : PK X kws tk) (hall : (backToKw pos (keywordEach kws X.env)).all (·.1.isSome) = true := by rfl) (hks : (backToKw pos (keywordEach kws X.env)).filterMap (·.1) = ks := by rfl)
    (hdb : (x == ("__debug__" : Str)) = false := by decide) (he : starEach (e :: es) X.env = (false, eval e X.env) :: starEach es X.env := by rfl)
    (hpl : ((backTo pos (starEach (e :: es) X.env)).any (·.1) || (backToKw pos (keywordEach kws X.env)).any (·.1.isNone)) = false := by rfl) :
    PE X (.Call (.Name x p) (e :: es) kws pos) (tCallK sp gV E t tk) := by
  intro pins s σ H Q I h
  refine wpAny_Call_Name_kw (ld_glob I hg hm ?_ hdb)
  refine PySem.W.callWith_KW (h₀ := X.base) I.ok.mod.kin hk hall (thn (ha pos pins s σ H _ I h) fun us s1 ⟨vs, H1, I1, r, q⟩ => ?_) hpl he
  refine thn (hkw pos pins s1 σ H1 _ I1 q) fun ws s2 ⟨zs, H2, I2, rz, q2⟩ => ⟨I2.kIn, ?_⟩
  rw [hks]
  exact run_fnk F hr hb hx I2 r rz q2
end
structure FnScope (N P : List Str) (sc : Scope) : Prop where
  kind : sc.kind = .function
  co : sc.isCoroutine = false
  gen : sc.isGenerator = false
  nd : N.Nodup
  pre : N.take P.length = P
  par : ∀ x ∈ P, sc.names.lookup x = some .local ∨ sc.names.lookup x = some .cell
  nofree : ∀ y ∈ sc.names, y.2 ≠ .free
theorem bindL_out {kindOf : Str → Option NameKind} {x : Str} : ∀ {binds : List (Str × Value)} {m : Str → Option Value}, (∀ v, (x, v) ∉ binds) → bindL kindOf binds m x = m x
  | [], _, _ => rfl
  | (n, v) :: r, m, h => by
    unfold bindL
    rw [bindL_out fun w hw => h w (List.mem_cons_of_mem _ hw)]
    split
    · have : x ≠ n := by rintro rfl; exact h v List.mem_cons_self
      simp [this]
    · rfl
theorem bindC_out {kindOf : Str → Option NameKind} {x : Str} : ∀ {binds : List (Str × Value)} {m : Str → Option Value}, (∀ v, (x, v) ∉ binds) → bindC kindOf binds m x = m x
  | [], _, _ => rfl
  | (n, v) :: r, m, h => by
    unfold bindC
    rw [bindC_out fun w hw => h w (List.mem_cons_of_mem _ hw)]
    split
    · rfl
    · have : x ≠ n := by rintro rfl; exact h v List.mem_cons_self
      simp [this]
theorem bindL_get {kindOf : Str → Option NameKind} {x : Str} {v : Value} : ∀ {P : List Str} {vs : List Value} {i : Nat} {m : Str → Option Value}, P.Nodup → P[i]? = some x → vs[i]? = some v → kindOf x = some .local →
    bindL kindOf (P.zip vs) m x = some v
  | [], _, _, _, _, h, _, _ => by simp at h
  | _ :: _, [], _, _, _, _, h, _ => by simp at h
  | p :: P, w :: vs, 0, m, nd, h1, h2, hk => by
    simp at h1 h2; subst h1; subst h2
    show bindL kindOf ((p, w) :: P.zip vs) m p = _
    unfold bindL
    rw [bindL_out fun v hv => (List.nodup_cons.mp nd).1 (List.of_mem_zip hv).1, if_pos hk]
    simp
  | p :: P, w :: vs, i + 1, m, nd, h1, h2, hk => by
    show bindL kindOf ((p, w) :: P.zip vs) m x = _
    unfold bindL
    exact bindL_get (i := i) (List.nodup_cons.mp nd).2 (by simpa using h1) (by simpa using h2) hk
theorem bindC_get {kindOf : Str → Option NameKind} {x : Str} {v : Value} : ∀ {P : List Str} {vs : List Value} {i : Nat} {m : Str → Option Value}, P.Nodup → P[i]? = some x → vs[i]? = some v → kindOf x ≠ some .local →
    bindC kindOf (P.zip vs) m x = some v
  | [], _, _, _, _, h, _, _ => by simp at h
  | _ :: _, [], _, _, _, _, h, _ => by simp at h
  | p :: P, w :: vs, 0, m, nd, h1, h2, hk => by
    simp at h1 h2; subst h1; subst h2
    show bindC kindOf ((p, w) :: P.zip vs) m p = _
    unfold bindC
    rw [bindC_out fun v hv => (List.nodup_cons.mp nd).1 (List.of_mem_zip hv).1, if_neg hk]
    simp
  | p :: P, w :: vs, i + 1, m, nd, h1, h2, hk => by
    show bindC kindOf ((p, w) :: P.zip vs) m x = _
    unfold bindC
    exact bindC_get (i := i) (List.nodup_cons.mp nd).2 (by simpa using h1) (by simpa using h2) hk
def start (N : List Str) (vs : List V) : St := vs.map some ++ List.replicate (N.length - vs.length) none
def cxOf (CX : CXT) (P : Program) (w : World) (K : PySem.W.Frag) (mg : Str → Option Value) (base : Heap) (N : List Str) (qual : Str) (scope : Scope) (f : Addr) (cd : Value) (A : Around) (outer : List Env) (s : Shared) (H : Hp) (E : XK) : Cx where
  prog := P
  w := w
  K := K
  mg := mg
  base := base
  A := A.deeper (envOfC qual scope s.heap.objs.size f cd)
  N := N
  s₀ := s
  H₀ := H
  env := envOfC qual scope s.heap.objs.size f cd
  outer := outer
  stack := envOfC qual scope s.heap.objs.size f cd :: outer
  ex := []
  calm := true
  fn := fun _ => true
  pn := []
  xe := fun e s' => wpAny (model P w) (A.deeper (envOfC qual scope s.heap.objs.size f cd)) (leaving (envOfC qual scope s.heap.objs.size f cd) e) (fun _ s'' => CX outer H s E e s'') (fun e' s'' => CX outer H s E e' s'') s'
theorem cell_has {sc : Scope} {n : Nat} {x : Str} (h : sc.names.lookup x = some .cell) : ∃ c, (cellsFrom n sc.names []).lookup x = some c := by
  have q := PySem.W.cellsFrom_some sc.names n [] (.inl h)
  exact Option.isSome_iff_exists.mp q
theorem inv_start {CX : CXT} {P : Program} {w : World} {K : PySem.W.Frag} {mg : Str → Option Value} {base : Heap} {N ps : List Str} {qual : Str} {scope : Scope} {f : Addr} {cd : Value} {A : Around} {outer : List Env} {s s1 : Shared} {H : Hp} {E : XK} {us : List Value} {vs : List V}
    (S : FnScope N ps scope) (hd : A.handled = none) (e0 : Env0 P w K mg base A outer s H) (hl : vs.length = ps.length) (r : Vals vs us)
    (x : InCallC s s.heap.objs.size (bindL (envOfC qual scope s.heap.objs.size f cd).kindOf (ps.zip us) fun _ => none) (cellsFrom (s.heap.objs.size + 1) scope.names []) (bindC (envOfC qual scope s.heap.objs.size f cd).kindOf (ps.zip us) fun _ => none) s1) :
    Inv (cxOf CX P w K mg base N qual scope f cd A outer s H E) [] (start N vs) H s1 := by
  have hpl : ps.length ≤ N.length := by have := congrArg List.length S.pre; rw [List.length_take] at this; omega
  obtain ⟨h1, tk, rfl, hk⟩ := x.done
  have noA : ∀ b : Addr, b ∉ (cxOf CX P w K mg base N qual scope f cd A outer s H E).ex := fun b z => absurd (show b ∈ ([] : List Addr) from z) (by simp)
  refine ⟨⟨e0.mod, S.kind, rfl, rfl, Nat.le_refl _, fun y z c h1 h2 => ?_, fun y hy => ?_, fun y c _ h => ?_, fun _ => hd, Around.frames_deeper e0.frames, .inr ⟨rfl, rfl⟩, fun b z => absurd z (noA b), e0.bs, e0.bsz, fun b _ _ => noA b, fun b z => absurd z (noA b), e0.funs, e0.frf⟩,
    rfl, e0.bare, Un.kept hk, ⟨_, x.toInCall.ns, fun i y v h1 h2 h3 => ?_⟩, fun y c h => ⟨_, x.cell y c h⟩, e0.hok.fresh (Nat.le_refl _), fun y c h => ?_, fun p hp => absurd (show p ∈ ([] : List (Addr × Obj)) from hp) (by simp), e0.hok.kept hk, ?_⟩
  · exact name_of_addr x.apart (PySem.mem_of_lookup h1) (PySem.mem_of_lookup h2)
  · have hy : scope.names.lookup y = some .cell ∨ scope.names.lookup y = some .free := hy
    rcases hy with hy | hy
    · exact cell_has hy
    · exact absurd rfl (S.nofree _ (PySem.mem_of_lookup hy))
  · exact Nat.le_of_lt (x.above y c (PySem.mem_of_lookup h))
  · have hi : i < vs.length := by
      unfold start at h2
      by_cases hi : i < vs.length
      · exact hi
      · rw [List.getElem?_append_right (by simpa using hi)] at h2
        rw [List.getElem?_replicate] at h2
        split at h2 <;> cases h2
    have ha : vs[i]? = some v := by
      unfold start at h2
      rw [List.getElem?_append_left (by simpa using hi), List.getElem?_map] at h2
      cases e : vs[i]? with
      | none => rw [e] at h2; cases h2
      | some a => rw [e] at h2; cases h2; rfl
    obtain ⟨u, hu, rv⟩ := r.get ha
    have hp : ps[i]? = some y := by
      rw [← S.pre, List.getElem?_take_of_lt (by omega)]; exact h1
    have ndP : ps.Nodup := by rw [← S.pre]; exact S.nd.sublist (List.take_sublist _ _)
    refine ⟨u, rv, ?_⟩
    rcases S.par y (List.mem_of_getElem? hp) with k | k
    · exact .inl ⟨k, bindL_get ndP hp hu k⟩
    · obtain ⟨c, e⟩ := cell_has (n := s.heap.objs.size + 1) k
      refine .inr ⟨.inl k, c, e, ?_⟩
      have q := x.cell y c e
      rw [bindC_get ndP hp hu (by show scope.names.lookup y ≠ _; rw [k]; decide)] at q
      exact q
  · exact e0.hok.fresh (Nat.le_of_lt (x.above y c (PySem.mem_of_lookup h)))
  · unfold start
    show _ = N.length
    rw [List.length_append, List.length_map, List.length_replicate]
    omega
theorem fn_of {CX : CXT} {P : Program} {w : World} {K : PySem.W.Frag} {mg : Str → Option Value} {base : Heap} {k : Nat} {f : Addr} {name qual : Str} {params : Arguments} {body : List Stmt} {scope : Scope} {dV kV doc pm cdv ct oc : Value} {an od : Option Addr}
    {osl : Array (Option Value)} {N ps : List Str} {sp : Sp} (lk : K.lookup f = some ⟨oc, od, .func (PySem.W.fnOf name qual params body scope dV kV doc pm an cdv ct), osl⟩) (hcd : PySem.W.codeIn K cdv qual = true) (S : FnScope N ps scope)
    (len : ∀ vs H Q E, sp vs H Q E → vs.length = ps.length)
    (hbody : ∀ (A : Around) (outer : List Env) (s : Shared) (H : Hp) (vs : List V) (Q : VK) (E : XK), Room k (A.deeper (envOfC qual scope s.heap.objs.size f cdv)) → sp vs H Q E →
      ∃ t, PSs (cxOf CX P w K mg base N qual scope f cdv A outer s H E) body t ∧ t { nx := fun _ H' => Q .non H', rt := Q } (start N vs) H) :
    FnOk P w K mg base CX (k + 1) f (PySem.W.fnOf name qual params body scope dV kV doc pm an cdv ct) ps sp := by
  refine ⟨len, fun A outer s H args us vs Q E hr e0 hb r hsp => ?_⟩
  have hl := len _ _ _ _ hsp
  have KX : K.In s.heap := e0.mod.kin.keeps fun b o e => (e0.bs b o e).1
  have lim : s.heap.NoLimit := e0.mod.nolimit.keeps fun b o e => (e0.bs b o e).1
  have hkind : ∀ y ∈ ps.zip us, scope.names.lookup y.1 = some .local ∨ (scope.names.lookup y.1 = some .cell ∧ ((cellsFrom (s.heap.objs.size + 1) scope.names []).lookup y.1).isSome = true) := fun ⟨n, v⟩ hy => by
    rcases S.par n (List.of_mem_zip hy).1 with q | q
    · exact .inl q
    · exact .inr ⟨q, PySem.W.cellsFrom_some _ _ _ (.inl q)⟩
  refine codeAny_call_function hr.depth (KX _ _ lk) rfl S.co S.gen rfl (PySem.W.codeRec_of KX hcd) (hb _ _ _ _ ?_)
  refine wpAny_newFunctionEnv_cells S.kind hkind fun env he s1 x => ?_
  subst he
  refine ⟨lim.keeps x.toInCall.keep, codeAny_func ?_⟩
  obtain ⟨t, ht, hq⟩ := hbody A outer s H vs Q E (hr.deeper _) hsp
  have I : Inv (cxOf CX P w K mg base N qual scope f cdv A outer s H E) [] (start N vs) H s1 := inv_start S hr.hd e0 hl r x
  refine wpAny_mono (ht [] s1 (start N vs) H _ I hq) (fun fl s' hs => ?_) fun e s' hs => hs
  have fin : ∀ {σ' : St} {H' : Hp} {v : V} {u : Value}, Inv (cxOf CX P w K mg base N qual scope f cdv A outer s H E) [] σ' H' s' → RelV v u → Q v H' → CE outer P w H s Q u s' :=
    fun {σ' H' v u} J rv q => ⟨v, H', J.os, J.bare, J.base, J.hok, rv, q⟩
  cases fl with
  | ret u =>
    obtain ⟨v, σ', H', J, rv, q⟩ := hs
    exact fin J rv q
  | next =>
    obtain ⟨σ', H', J, q⟩ := hs
    exact fin (v := V.non) (u := Value.none) J rfl q
  | brk =>
    obtain ⟨_, _, _, q⟩ := hs
    exact False.elim q
  | cont =>
    obtain ⟨_, _, _, q⟩ := hs
    exact False.elim q
end L2
namespace L2
open PySem PySem.Spec PyProof.Rows
section
variable {X : Cx} {x : Str} {p pos : Pos} {e : Expr} {es : List Expr} {t : TA} {id T : String} {r : List V → Hp → VK → Prop}
def tCB (r : List V → Hp → VK → Prop) (t : TA) : TE := fun σ H Q => t σ H fun vs H1 => r vs H1 Q
theorem pe_callB (hc : CallR X (.builtin id) r) (hg : Gl X x) (hm : X.mg x = none) (hv : bootBuiltins x = some (.builtin id)) (ha : PA X (e :: es) t) (hn : x ≠ "__name__" := by decide) (hdb : (x == ("__debug__" : Str)) = false := by decide)
    (he : starEach (e :: es) X.env = (false, eval e X.env) :: starEach es X.env := by rfl) (hpl : (backTo pos (starEach es X.env)).any (·.1) = false := by rfl) : PE X (.Call (.Name x p) (e :: es) [] pos) (tCB r t) := by
  intro pins s σ H Q I h
  refine wpAny_Call_Name_kw (ld_blt I hg hm hv ?_ hn hdb)
  exact PyProof.Rows.callWith_builtin1 (thn (ha pos pins s σ H _ I h) fun us s1 ⟨vs, H1, I1, r1, q1⟩ => hc pins s1 σ H1 vs us Q I1 r1 q1) he hpl
theorem pe_callTy (hc : CallR X (.type T) r) (hg : Gl X x) (hm : X.mg x = none) (hv : bootBuiltins x = some (.type T)) (ha : PA X (e :: es) t) (hn : x ≠ "__name__" := by decide) (hdb : (x == ("__debug__" : Str)) = false := by decide)
    (he : starEach (e :: es) X.env = (false, eval e X.env) :: starEach es X.env := by rfl) (hpl : (backTo pos (starEach es X.env)).any (·.1) = false := by rfl) : PE X (.Call (.Name x p) (e :: es) [] pos) (tCB r t) := by
  intro pins s σ H Q I h
  refine wpAny_Call_Name_kw (ld_blt I hg hm hv ?_ hn hdb)
  exact PyProof.Rows.callWith_type1 (thn (ha pos pins s σ H _ I h) fun us s1 ⟨vs, H1, I1, r1, q1⟩ => hc pins s1 σ H1 vs us Q I1 r1 q1) he hpl
theorem pe_callTy0 (hc : CallR X (.type T) r) (hg : Gl X x) (hm : X.mg x = none) (hv : bootBuiltins x = some (.type T)) (hn : x ≠ "__name__" := by decide) (hdb : (x == ("__debug__" : Str)) = false := by decide) :
    PE X (.Call (.Name x p) [] [] pos) (tCB r tNil) := by
  intro pins s σ H Q I h
  refine wpAny_Call_Name_kw (ld_blt I hg hm hv ?_ hn hdb)
  exact PyProof.Rows.callWith_type0 (hc pins s σ H [] [] Q I .nil h)
end
end L2
namespace HT
open PySem PyProof.Rows
def lexLt : List Int → List Int → Bool
  | [], [] => false
  | [], _ :: _ => true
  | _ :: _, [] => false
  | x :: xs, y :: ys => if x = y then lexLt xs ys else decide (x < y)
theorem lexLt_cons (x y : Int) (xs ys : List Int) : lexLt (x :: xs) (y :: ys) = if x = y then lexLt xs ys else decide (x < y) := rfl
theorem lexLt_nil_nil : lexLt [] [] = false := rfl
theorem lexLt_nil_cons (y : Int) (ys : List Int) : lexLt [] (y :: ys) = true := rfl
theorem lexLt_cons_nil (x : Int) (xs : List Int) : lexLt (x :: xs) [] = false := rfl
theorem eqAt_int (A : Around) (s : Shared) (a : Int) (t : Tok) (c : Int) (u : Tok) : ∃ e, SeqAt.EqAt A s (.int a t) (.int c u) e ∧ (e = true ↔ a = c) :=
  ⟨(a == c), SeqAt.EqAt.int_int a t c u, by simp⟩
theorem rcLt_int (A : Around) (s : Shared) (a : Int) (t : Tok) (c : Int) (u : Tok) (prog : Program) (w : World) (E : Value → Shared → Prop) (Q : Value → Shared → Prop) (h : Q (.bool (decide (a < c))) s) :
    wpAny (model prog w) A (richCompare .Lt (.int a t) (.int c u)) Q E s :=
  (PyProof.Rows.lt_int h : wpAny (model prog w) A (compareOp .Lt (.int a t) (.int c u)) Q E s)
section
open PySem.SeqAt
open PySem.AutoSeq1 (wpAny_loadPart')
open PySem.MeetsSeq PySem.MeetsSeq2 PySem.MeetsSeq3
theorem tuple_lt_ints (l b : Addr) (items items2 : Array Value) (n n2 : Nat) (dd dd2 : Option Addr) (sl sl2 : Array (Option Value)) (ns ms : List Int) (hi : IntsAre items.toList ns) (hj : IntsAre items2.toList ms) :
    Meets (Builtin.«tuple.__lt__» ⟨[.ref l, .ref b], []⟩)
      (fun _ R s => s.heap.get? l = some { cls := .type "tuple", dict := dd, data := .seq items n, slots := sl } ∧ s.heap.get? b = some { cls := .type "tuple", dict := dd2, data := .seq items2 n2, slots := sl2 } ∧
        R (.ok (.ret (.bool (lexLt ns ms)))) s) :=
  .of_wp fun prog w A R s h => by
    obtain ⟨hp, g, d, tk, os⟩ := s; obtain ⟨hl, hb, h⟩ := h
    have f2 := AutoSeq1.sub_tuple_tuple
    have z1 : items.size = ns.length := by rw [← hi.length]; simp
    have z2 : items2.size = ms.length := by rw [← hj.length]; simp
    wp_walk using wpAny_loadPart' hl, wpAny_loadPart' hb, wpAny_forIn_list _ (fun rest b s' => b.1 = none ∧ s' = ⟨hp, g, d, tk, os⟩ ∧ ∃ (vs ws : List Value) (ns' ms' : List Int), rest = vs.zip ws ∧
      IntsAre vs ns' ∧ IntsAre ws ms' ∧ ns'.length + items2.size = ms'.length + items.size ∧ R (.ok (.ret (.bool (lexLt ns' ms')))) ⟨hp, g, d, tk, os⟩) _
    case turn =>
      rintro ⟨y, x⟩ rest b s' ⟨hb', rfl, vs, ws, ns', ms', hz, hvi, hwi, hlen, hR⟩
      cases hvi with
      | nil => rw [List.zip_nil_left] at hz; cases hz
      | cons a t hvi' =>
        cases hwi with
        | nil => rw [List.zip_nil_right] at hz; cases hz
        | cons c u hwi' =>
          rw [List.zip_cons_cons] at hz
          injection hz with hyx hrest
          injection hyx with hy hx
          subst hy hx
          rw [lexLt_cons] at hR
          simp only [List.length_cons] at hlen
          obtain ⟨e, he, hiff⟩ := eqAt_int A.in1 ⟨hp, g, d, tk, os⟩ a t c u
          refine wpAny_bind (he prog w _ _ ?_)
          cases e with
          | true =>
            rw [if_pos (hiff.mp rfl)] at hR
            wp_walk
            exact ⟨rfl, rfl, _, _, _, _, hrest, hvi', hwi', by omega, hR⟩
          | false =>
            rw [if_neg (fun q => absurd (hiff.mpr q) Bool.false_ne_true)] at hR
            have hri := rcLt_int A.in1 ⟨hp, g, d, tk, os⟩ a t c u prog w
            wp_walk using hri
            exact ⟨_, rfl, by simpa using hR⟩
    case fin =>
      rintro ⟨b1, b2⟩ s' ⟨hb', rfl, vs, ws, ns', ms', hz, hvi, hwi, hlen, hR⟩
      simp only at hb'
      subst hb'
      have hv : lexLt ns' ms' = decide (items.size < items2.size) := by
        cases hvi with
        | nil =>
          cases hwi with
          | nil =>
            simp only [List.length_nil] at hlen
            rw [lexLt_nil_nil]
            exact (decide_eq_false (by omega)).symm
          | cons c u hw =>
            simp only [List.length_nil, List.length_cons] at hlen
            rw [lexLt_nil_cons]
            exact (decide_eq_true (by omega)).symm
        | cons a t hv =>
          cases hwi with
          | nil =>
            simp only [List.length_nil, List.length_cons] at hlen
            rw [lexLt_cons_nil]
            exact (decide_eq_false (by omega)).symm
          | cons c u hw =>
            rw [List.zip_cons_cons] at hz
            cases hz
      rw [hv] at hR
      wp_walk
      exact ⟨_, rfl, by simpa [Builtin.Tuple.tupleCompareSizes] using hR⟩
    case h =>
      exact ⟨rfl, rfl, items.toList, items2.toList, ns, ms, rfl, hi, hj, by omega, h⟩
end
section
variable {prog : Program} {w : World} {A : Around} {E : Value → Shared → Prop} {s : Shared}
theorem lt_tupInts {l b : Addr} {items items2 : Array Value} {ns ms : List Int} {Q : Value → Shared → Prop} (hl : IsTup s.heap l items) (hb : IsTup s.heap b items2) (hi : IntsAre items.toList ns) (hj : IntsAre items2.toList ms)
    (hu : A.units < cLine) (h : Q (.bool (lexLt ns ms)) s) : wpAny (model prog w) A (compareOp .Lt (.ref l) (.ref b)) Q E s := by
  obtain ⟨⟨cls, dd, data, sl⟩, ho, hc, n, hd⟩ := id hl
  obtain ⟨⟨cls2, dd2, data2, sl2⟩, ho2, hc2, n2, hd2⟩ := id hb
  simp only at hc hd hc2 hd2
  subst hc hd hc2 hd2
  exact richCompare_meets_room (op := .Lt) ⟨_, ho, rfl⟩ ⟨_, ho2, rfl⟩ PySem.F.slot_tuple_lt PySem.F.entry_tuple_lt (PySem.F.args_tuple_lt_2 _ _) (tuple_lt_ints l b items items2 n n2 dd dd2 sl sl2 ns ms hi hj)
    ⟨ho, ho2, show Value.bool (lexLt ns ms) ≠ Value.notImplemented ∧ Q (.bool (lexLt ns ms)) s from ⟨(fun x => nomatch x), h⟩⟩ hu
theorem cat_tup {t b : Addr} {vs ws : List Value} {Q : Value → Shared → Prop} (ht : IsTup s.heap t vs.toArray) (hb : IsTup s.heap b ws.toArray) (hv : vs ≠ [])
    (h1 : ws = [] → Q (.ref t) s) (h2 : ws ≠ [] → Q (.ref s.heap.objs.size) { s with heap := s.heap.push { cls := .type "tuple", data := .seq (vs ++ ws).toArray } })
    (hsz : vs.length + ws.length ≤ sizeLine) : wpAny (model prog w) A (binaryOp .Add (.ref t) (.ref b)) Q E s := by
  obtain ⟨⟨cls, dd, data, sl⟩, ho, hc, n, hd⟩ := id ht
  obtain ⟨⟨cls2, dd2, data2, sl2⟩, ho2, hc2, n2, hd2⟩ := id hb
  simp only at hc hd hc2 hd2
  subst hc hd hc2 hd2
  have e : vs.toArray ++ ws.toArray = (vs ++ ws).toArray := by simp
  by_cases hw : ws = []
  · exact concat_meets ⟨_, ho, rfl⟩ ⟨_, ho2, rfl⟩ noFill_tuple_add seq_tuple_add PySem.F.slot_tuple_add PySem.F.entry_tuple_add (PySem.F.args_tuple_add_2 _ _)
      (tuple_addW1 t b vs.toArray ws.toArray n n2 dd dd2 sl sl2 (by simpa using hv) (by simp [hw])) ⟨ho, ho2, h1 hw⟩
  · refine concat_meets ⟨_, ho, rfl⟩ ⟨_, ho2, rfl⟩ noFill_tuple_add seq_tuple_add PySem.F.slot_tuple_add PySem.F.entry_tuple_add (PySem.F.args_tuple_add_2 _ _)
      (tuple_addW2 t b vs.toArray ws.toArray n n2 dd dd2 sl sl2 (by simpa using hv) (by simpa using hw) (by rw [List.size_toArray, List.size_toArray]; exact hsz)) ⟨ho, ho2, ?_⟩
    rw [e]
    exact h2 hw
def sIx (n d : Nat) : Option Int → Nat
  | none => d
  | some v => if v < 0 then (v + (n : Int)).toNat else min v.toNat n
theorem sIx_none (n d : Nat) : sIx n d none = d := rfl
theorem sIx_nat (n d k : Nat) : sIx n d (some (k : Int)) = min k n := by
  show (if (k : Int) < 0 then ((k : Int) + (n : Int)).toNat else min (k : Int).toNat n) = min k n
  rw [if_neg (by omega), Int.toNat_natCast]
theorem sIx_le (n d : Nat) (hd : d ≤ n) (o : Option Int) : sIx n d o ≤ n := by
  cases o with
  | none => exact hd
  | some v =>
    show (if v < 0 then (v + (n : Int)).toNat else min v.toNat n) ≤ n
    by_cases hv : v < 0
    · rw [if_pos hv]; omega
    · rw [if_neg hv]; exact Nat.min_le_right _ _
theorem clip_eq (v : Int) (n d : Nat) : (if v < 0 then max (v + (n : Int)) 0 else min v (n : Int)) = ((sIx n d (some v) : Nat) : Int) := by
  show (if v < 0 then max (v + (n : Int)) 0 else min v (n : Int)) = (((if v < 0 then (v + (n : Int)).toNat else min v.toNat n) : Nat) : Int)
  by_cases hv : v < 0
  · simp only [if_pos hv]; omega
  · simp only [if_neg hv]; omega
theorem adjust_gen (lo hi : Option Int) (n : Nat) : Builtin.Slice.sliceAdjust lo hi 1 (n : Int) = (((sIx n 0 lo : Nat) : Int), ((sIx n n hi : Nat) : Int)) := by
  have h1 : ¬ ((1 : Int) < 0) := by omega
  unfold Builtin.Slice.sliceAdjust
  simp only [h1, if_false]
  refine Prod.ext ?_ ?_
  · cases lo with
    | none => rfl
    | some v => exact clip_eq v n 0
  · cases hi with
    | none => rfl
    | some v => exact clip_eq v n n
theorem places_gen (i j : Nat) : Builtin.Slice.slicePlaces (i : Int) (j : Int) 1 = j - i := by
  unfold Builtin.Slice.slicePlaces
  have h1 : (1 : Int) > 0 := by omega
  simp only [h1, if_true, Int.ediv_one]
  split <;> omega
theorem slicePart_ {v : Value} {o : Option Int} {Q : Option Int → Shared → Prop} (p : IsPart v o) (h : Q o s) : wpAny (model prog w) A (Builtin.Slice.slicePartIndex v) Q E s := by
  cases p with
  | none => exact slicePart_none h
  | int i t => exact slicePart_int h
theorem sliceApplied_gen {sl : Addr} {vl vu : Value} {lo hi : Option Int} {n : Nat} {Q : Int × Int × Nat → Shared → Prop} (hs : s.heap.IsSliceOf sl vl vu .none) (pl : IsPart vl lo) (pu : IsPart vu hi)
    (h : Q (((sIx n 0 lo : Nat) : Int), 1, sIx n n hi - sIx n 0 lo) s) : wpAny (model prog w) A (Builtin.Slice.sliceApplied (.ref sl) (pure (n : Int))) Q E s := by
  obtain ⟨os, hos, hcs, hds⟩ := id hs
  unfold Builtin.Slice.sliceApplied Builtin.Slice.sliceFields
  refine wpAny_bind (wpAny_bind (wpAny_field hos hds (x := vl) rfl (wpAny_bind (wpAny_field hos hds (x := vu) rfl (wpAny_bind (wpAny_field hos hds (x := .none) rfl (wpAny_pure ?_)))))))
  refine wpAny_bind (slicePart_none ?_)
  show wpAny _ _ (if ((1 : Int) == 0) = true then _ else _) _ _ s
  rw [if_neg (by decide)]
  refine wpAny_bind (slicePart_ pl (wpAny_bind (slicePart_ pu (wpAny_bind (wpAny_pure ?_)))))
  show wpAny _ _ (match Builtin.Slice.sliceAdjust lo hi 1 (n : Int) with | (lo, hi) => pure (lo, (1 : Int), Builtin.Slice.slicePlaces lo hi 1)) _ _ s
  rw [adjust_gen lo hi n]
  show wpAny _ _ (pure (((sIx n 0 lo : Nat) : Int), (1 : Int), Builtin.Slice.slicePlaces ((sIx n 0 lo : Nat) : Int) ((sIx n n hi : Nat) : Int) 1)) _ _ s
  rw [places_gen]
  exact wpAny_pure h
theorem pick_gen (xs : Array Value) (i k : Nat) : ((List.range k).filterMap fun (m : Nat) => xs[((i : Int) + (m : Int) * 1).toNat]?).toArray = ((xs.toList.drop i).take k).toArray := by
  have e : (fun (m : Nat) => xs[((i : Int) + (m : Int) * 1).toNat]?) = fun m => xs[i + m]? := by
    funext m
    have : ((i : Int) + (m : Int) * 1).toNat = i + m := by omega
    rw [this]
  rw [e]
  have := pick_run xs i k
  rw [List.filterMap_map] at this
  have e2 : ((fun x => xs[x]?) ∘ fun x => i + x) = fun m => xs[i + m]? := rfl
  rw [e2] at this
  rw [this]
theorem getItem_tuple_cut {t sl : Addr} {items : Array Value} {vl vu : Value} {lo hi : Option Int} {Q : Value → Shared → Prop} (ht : IsTup s.heap t items) (hs : s.heap.IsSliceOf sl vl vu .none) (pl : IsPart vl lo) (pu : IsPart vu hi)
    (hw : ¬ (sIx items.size 0 lo = 0 ∧ sIx items.size items.size hi = items.size))
    (h : Q (.ref s.heap.objs.size) { s with heap := s.heap.push { cls := .type "tuple", data := .seq ((items.toList.drop (sIx items.size 0 lo)).take (sIx items.size items.size hi - sIx items.size 0 lo)).toArray } })
    (hsz : items.size ≤ sizeLine) : wpAny (model prog w) A (getItem (.ref t) (.ref sl)) Q E s := by
  have htake : sizeOk (.seq ((items.toList.drop (sIx items.size 0 lo)).take (sIx items.size items.size hi - sIx items.size 0 lo)).toArray) := by
    show ((items.toList.drop (sIx items.size 0 lo)).take (sIx items.size items.size hi - sIx items.size 0 lo)).toArray.size ≤ sizeLine
    rw [List.size_toArray, List.length_take, List.length_drop, Array.length_toList]
    omega
  have hj : sIx items.size items.size hi ≤ items.size := sIx_le _ _ (Nat.le_refl _) hi
  obtain ⟨os, hos, hcs, hds⟩ := id hs
  have hTs : s.TypeIs (.ref sl) "slice" := ⟨os, hos, hcs⟩
  unfold getItem
  try with_reducible refine wpAny_holding ?_
  first | refine wpAny_bind (wpAny_pure ?_) | skip
  refine wpAny_bind (wpAny_sequenceKey ht.typeIs (by decide) ?_)
  refine wpAny_bind (wpAny_callSpecial?_slot (name := Str.ofString "__getitem__") ht.typeIs PyProof.Rows.slot_tuple_getitem
    (wpAny_call_entry PyProof.Rows.slot_tuple_getitem ht.typeIs entry_tuple_getitem ?_ (args_tuple_getitem _ _)))
  show wpAny _ _ (Builtin.Tuple.tupleItemsOf (.ref t) >>= _) _ _ s
  refine wpAny_bind (tupleItemsOf_ ht ?_)
  refine wpAny_bind (wpAny_typeOf hTs ?_)
  rw [if_pos (by decide)]
  refine wpAny_bind (sliceApplied_gen hs pl pu ?_)
  have hno : ¬ ((((sIx items.size 0 lo : Nat) : Int) == 0 && (1 : Int) == 1 && (sIx items.size items.size hi - sIx items.size 0 lo) == items.size) = true) := by
    intro q
    rw [Bool.and_eq_true, Bool.and_eq_true] at q
    have q1 : ((sIx items.size 0 lo : Nat) : Int) = 0 := eq_of_beq q.1.1
    have q2 : sIx items.size items.size hi - sIx items.size 0 lo = items.size := eq_of_beq q.2
    exact hw ⟨by omega, by omega⟩
  show wpAny _ _ (if (((sIx items.size 0 lo : Nat) : Int) == 0 && (1 : Int) == 1 && (sIx items.size items.size hi - sIx items.size 0 lo) == items.size) = true then _ else _) _ _ s
  rw [if_neg hno, pick_gen]
  first
    | exact wpAny_bind (m := Builtin.Tuple.tupleExact _) (wpAny_newObj_type (wpAny_pure ⟨_, rfl, wpAny_pure h⟩) htake)
    | exact wpAny_bind (m := Builtin.Tuple.tupleExact _) (wpAny_newObj_type (wpAny_bind (wpAny_pure (wpAny_pure ⟨_, rfl, wpAny_pure h⟩))) htake)
    | exact wpAny_bind (wpAny_bind (m := Builtin.Tuple.tupleExact _) (wpAny_newObj_type (wpAny_pure (wpAny_pure ⟨_, rfl, wpAny_pure h⟩)) htake))
    | exact wpAny_bind (wpAny_bind (m := Builtin.Tuple.tupleExact _) (wpAny_newObj_type (wpAny_pure ⟨_, rfl, wpAny_pure h⟩) htake))
end
end HT
namespace L2
open PySem PySem.Spec PyProof.Rows
abbrev TO := St → Hp → (Option Int → Hp → Prop) → Prop
def PO (X : Cx) (e : Option Expr) (t : TO) : Prop :=
  ∀ (pins : List (Addr × Obj)) (s : Shared) (σ : St) (H : Hp) (Q : Option Int → Hp → Prop), Inv X pins σ H s → t σ H Q →
    wpAny (model X.prog X.w) X.A (evalPart e X.env) (fun u s' => ∃ o H', Inv X pins σ H' s' ∧ IsPart u o ∧ Q o H') X.xe s
def tNoPart : TO := fun _ H Q => Q none H
def tPart (t : TE) : TO := fun σ H Q => t σ H fun x H1 => ∃ i, x = .int i ∧ Q (some i) H1
theorem intsAre_of {ns : List Int} : ∀ {us : List Value}, Vals (ns.map V.int) us → IntsAre us ns := by
  induction ns with
  | nil => intro us r; rw [List.map_nil] at r; cases r; exact .nil
  | cons n ns ih =>
    intro us r
    rw [List.map_cons] at r
    cases r with
    | cons r1 r2 =>
      obtain ⟨t, e⟩ := r1
      subst e
      exact .cons n t (ih r2)
section
variable {X : Cx} {e : Expr} {te : TE} {lo hi : Option Expr} {tl th : TO} {pos p2 : Pos}
theorem po_none : PO X none tNoPart := by
  intro pins s σ H Q I h
  rw [evalPart_none]
  exact wpAny_pure ⟨none, H, I, .none, h⟩
theorem po_some (h : PE X e te) : PO X (some e) (tPart te) := by
  intro pins s σ H Q I hw
  rw [evalPart_some]
  refine thn (h pins s σ H _ I hw) fun u s1 ⟨x, H1, I1, r1, q1⟩ => ?_
  obtain ⟨i, rfl, q⟩ := q1
  obtain ⟨t, rfl⟩ := r1
  exact ⟨some i, H1, I1, .int i t, q⟩
def SlR (X : Cx) (r : V → Option Int → Option Int → Hp → VK → Prop) : Prop :=
  ∀ (pins : List (Addr × Obj)) (s : Shared) (σ : St) (H : Hp) (x : V) (v vl vu : Value) (lo hi : Option Int) (sl : Addr) (Q : VK), Inv X pins σ H s → RelV x v → s.heap.IsSliceOf sl vl vu .none → IsPart vl lo → IsPart vu hi → r x lo hi H Q →
    ∃ T id, typeLookup (.type T) "__getitem__" = pure (some (.builtin id)) ∧ s.TypeIs v T ∧ wpAny (model X.prog X.w) X.A (getItem v (.ref sl)) (EP X pins σ Q) X.xe s
theorem SlR.or {r r' : V → Option Int → Option Int → Hp → VK → Prop} (h : SlR X r) (h' : SlR X r') : SlR X (fun x lo hi H Q => r x lo hi H Q ∨ r' x lo hi H Q) := by
  intro pins s σ H x v vl vu lo hi sl Q I rx hs pl pu q
  rcases q with q | q
  · exact h pins s σ H x v vl vu lo hi sl Q I rx hs pl pu q
  · exact h' pins s σ H x v vl vu lo hi sl Q I rx hs pl pu q
def tSl (r : V → Option Int → Option Int → Hp → VK → Prop) (te : TE) (tl th : TO) : TE := fun σ H Q => te σ H fun x H1 => tl σ H1 fun l H2 => th σ H2 fun u H3 => r x l u H3 Q
theorem pe_slice {r : V → Option Int → Option Int → Hp → VK → Prop} (hr : SlR X r) (he : PE X e te) (hl : PO X lo tl) (hu : PO X hi th) : PE X (.Subscript e (.Slice lo hi none p2) pos) (tSl r te tl th) := by
  intro pins s σ H Q I h
  refine Subscript_ (thn (he pins s σ H _ I h) fun v s1 ⟨x, H1, I1, r1, q1⟩ => ?_)
  refine wpAny_Slice (thn (hl pins s1 σ H1 _ I1 q1) fun vl s2 ⟨l, H2, I2, pl, q2⟩ => thn (hu pins s2 σ H2 _ I2 q2) fun vu s3 ⟨u, H3, I3, pu, q3⟩ => ?_)
  rw [evalPart_none]
  refine wpAny_pure ?_
  have I4 : Inv X pins σ H3 { s3 with heap := s3.heap.push { cls := .type "slice", data := .fields #[vl, vu, .none] } } := I3.kept (t' := s3.toks) fun b ob q => Heap.get?_push_of_some _ q
  obtain ⟨T, id, hT, ht, hg⟩ := hr pins { s3 with heap := s3.heap.push { cls := .type "slice", data := .fields #[vl, vu, .none] } } σ H3 x v vl vu l u s3.heap.objs.size Q I4 r1 (Heap.IsSliceOf.new ..) pl pu q3
  show wpAny (model X.prog X.w) X.A (subscriptTail e (.Slice lo hi none p2) v (.ref s3.heap.objs.size)) (EP X pins σ Q) X.xe { s3 with heap := s3.heap.push { cls := .type "slice", data := .fields #[vl, vu, .none] } }
  exact tail_any (ops := [.ref s3.heap.objs.size, v]) ht hT hg (by with_unfolding_all rfl)
def cutV (xs : List V) (lo hi : Option Int) : List V := (xs.drop (HT.sIx xs.length 0 lo)).take (HT.sIx xs.length xs.length hi - HT.sIx xs.length 0 lo)
theorem cutV_length (xs : List V) (lo hi : Option Int) : (cutV xs lo hi).length ≤ xs.length := by
  unfold cutV
  rw [List.length_take, List.length_drop]
  omega
def rSlT (K : PySem.W.Frag) : V → Option Int → Option Int → Hp → VK → Prop := fun x lo hi H Q => ∃ a xs, x = .ref a ∧ SqT K H a xs ∧
  ¬ (HT.sIx xs.length 0 lo = 0 ∧ HT.sIx xs.length xs.length hi = xs.length) ∧ ∀ p, H p = none → Q (.ref p) (upd H p (.tup (cutV xs lo hi)))
theorem sl_tup : SlR X (rSlT X.K) := by
  intro pins s σ H x v vl vu lo hi sl Q I rx hs pl pu h
  obtain ⟨a, xs, rfl, hx, hw, q⟩ := h
  cases rx
  obtain ⟨its, r, ht, hz⟩ := I.tuple hx
  have hlen : its.toArray.size = xs.length := by rw [List.size_toArray]; exact r.length.symm
  refine ⟨"tuple", _, PyProof.Rows.slot_tuple_getitem.lookup, ht.typeIs, ?_⟩
  refine HT.getItem_tuple_cut ht hs pl pu (by rw [hlen]; exact hw) ?_ (by rw [hlen]; exact hz)
  rw [hlen]
  refine ⟨.ref s.heap.objs.size, _, I.laid (t' := s.toks) (o := .tup (cutV xs lo hi)) (fun b ob q => Heap.get?_push_of_some _ q) (Nat.le_refl _) ?_, rfl, q _ (I.hok.fresh (Nat.le_refl _))⟩
  exact ⟨Nat.le_trans (cutV_length xs lo hi) hz, _, (r.drop (HT.sIx xs.length 0 lo)).take (HT.sIx xs.length xs.length hi - HT.sIx xs.length 0 lo), IsTup.new _ _⟩
def rLtT (K : PySem.W.Frag) : R2 := fun x y H Q => ∃ a b ns ms, x = .ref a ∧ y = .ref b ∧ SqT K H a (ns.map V.int) ∧ SqT K H b (ms.map V.int) ∧ Q (.bl (HT.lexLt ns ms)) H
theorem op_ltT (hu : X.A.units < cLine) : OpR X (compareOp .Lt) (rLtT X.K) := by
  intro pins s σ H x y v u Q I rx ry h
  obtain ⟨a, b, ns, ms, rfl, rfl, ha, hb, q⟩ := h
  cases rx
  cases ry
  obtain ⟨its, r1, p1, _⟩ := I.tuple ha
  obtain ⟨its2, r2, p2, _⟩ := I.tuple hb
  have i1 : IntsAre its.toArray.toList ns := intsAre_of r1
  have i2 : IntsAre its2.toArray.toList ms := intsAre_of r2
  exact HT.lt_tupInts p1 p2 i1 i2 hu ⟨.bl (HT.lexLt ns ms), H, I, rfl, q⟩
def rCatT (K : PySem.W.Frag) : R2 := fun x y H Q => ∃ a b xs ys, x = .ref a ∧ y = .ref b ∧ SqT K H a xs ∧ SqT K H b ys ∧ xs ≠ [] ∧ xs.length + ys.length ≤ sizeLine ∧
  (ys = [] → Q (.ref a) H) ∧ (ys ≠ [] → ∀ p, H p = none → Q (.ref p) (upd H p (.tup (xs ++ ys))))
theorem Vals.nil_iff {xs : List V} {us : List Value} (r : Vals xs us) : us = [] ↔ xs = [] := by
  cases r with
  | nil => simp
  | cons _ _ => simp
theorem op_catT : OpR X (binaryOp .Add) (rCatT X.K) := by
  intro pins s σ H x y v u Q I rx ry h
  obtain ⟨a, b, xs, ys, rfl, rfl, ha, hb, hx, hz, q1, q2⟩ := h
  cases rx
  cases ry
  obtain ⟨its, r1, p1, _⟩ := I.tuple ha
  obtain ⟨its2, r2, p2, _⟩ := I.tuple hb
  refine HT.cat_tup p1 p2 (fun z => hx (r1.nil_iff.mp z)) (fun z => ⟨.ref a, H, I, rfl, q1 (r2.nil_iff.mp z)⟩) (fun z => ?_) (by rw [← r1.length, ← r2.length]; exact hz)
  refine ⟨.ref s.heap.objs.size, _, I.laid (t' := s.toks) (o := .tup (xs ++ ys)) (fun b ob q => Heap.get?_push_of_some _ q) (Nat.le_refl _) ?_, rfl, q2 (fun w => z (r2.nil_iff.mpr w)) _ (I.hok.fresh (Nat.le_refl _))⟩
  exact ⟨by rw [List.length_append]; exact hz, _, r1.append r2, IsTup.new _ _⟩
theorem call_tupleT : CallR X (.type "tuple") (fun xs H Q => ∃ a ys, xs = [.ref a] ∧ SqT X.K H a ys ∧ Q (.ref a) H) := by
  intro pins s σ H xs us Q I r h
  obtain ⟨a, ys, rfl, ha, q⟩ := h
  obtain ⟨u, rfl, ru⟩ := vals1 r
  cases ru
  obtain ⟨its, _, p1, _⟩ := I.tuple ha
  exact call_tuple_same (items := its.toArray) p1 ⟨.ref a, H, I, rfl, q⟩
end
end L2
namespace L2
open PySem PySem.Spec PyProof.Rows
def ixN (n : Nat) (i : Int) : Option Nat := if 0 ≤ i then (if i < n then some i.toNat else none) else if -(n : Int) ≤ i then some (i + n).toNat else none
def atI {α : Type} (xs : List α) (i : Int) : Option α := (ixN xs.length i).bind fun j => xs[j]?
theorem ixN_seq {n : Nat} {i : Int} {j : Nat} (h : ixN n i = some j) : seqIndex? i n = some j ∧ j < n ∧ -(n : Int) ≤ i ∧ i < n := by
  unfold ixN at h
  by_cases h0 : 0 ≤ i
  · rw [if_pos h0] at h
    by_cases h1 : i < n
    · rw [if_pos h1] at h
      have e : i.toNat = j := Option.some.inj h
      exact ⟨by rw [seqIndex_of h0 h1, e], by omega, by omega, h1⟩
    · rw [if_neg h1] at h; cases h
  · rw [if_neg h0] at h
    by_cases h1 : -(n : Int) ≤ i
    · rw [if_pos h1] at h
      have e : (i + n).toNat = j := Option.some.inj h
      exact ⟨by rw [seqIndex_neg (by omega) h1, e], by omega, h1, by omega⟩
    · rw [if_neg h1] at h; cases h
theorem atI_get {α : Type} {xs : List α} {i : Int} {v : α} (h : atI xs i = some v) : ∃ j, seqIndex? i xs.length = some j ∧ xs[j]? = some v ∧ j < xs.length ∧ -(xs.length : Int) ≤ i ∧ i < xs.length := by
  unfold atI at h
  cases e : ixN xs.length i with
  | none => rw [e] at h; cases h
  | some j =>
    rw [e] at h
    obtain ⟨h1, h2, h3, h4⟩ := ixN_seq e
    exact ⟨j, h1, h, h2, h3, h4⟩
theorem atI_nat {α : Type} {xs : List α} {j : Nat} {v : α} (h : xs[j]? = some v) : atI xs (j : Int) = some v := by
  have hj : j < xs.length := (List.getElem?_eq_some_iff.mp h).1
  have e : ixN xs.length (j : Int) = some j := by
    unfold ixN
    rw [if_pos (by omega), if_pos (by omega)]; simp
  unfold atI; rw [e]; exact h
theorem atI_last {α : Type} (xs : List α) (v : α) : atI (xs ++ [v]) (-1) = some v := by
  have hl : (xs ++ [v]).length = xs.length + 1 := by simp
  have e : ixN (xs ++ [v]).length (-1) = some xs.length := by
    unfold ixN
    rw [hl, if_neg (by decide), if_pos (by omega)]
    congr 1
    omega
  unfold atI
  rw [e]
  show (xs ++ [v])[xs.length]? = some v
  simp
def PlainIx (b : Expr) : Prop := ∀ o i, subscripted b false o i = operate [o, i] (getItem o i)
def IxR (X : Cx) (r : R2) : Prop :=
  ∀ (value slice : Expr) (pins : List (Addr × Obj)) (s : Shared) (σ : St) (H : Hp) (x y : V) (v u : Value) (Q : VK), Inv X pins σ H s → RelV x v → RelV y u → r x y H Q →
    subscripted slice false v u = operate [v, u] (getItem v u) → wpAny (model X.prog X.w) X.A (subscriptTail value slice v u) (EP X pins σ Q) X.xe s
def MtR (X : Cx) (id : String) (r : V → List V → Hp → VK → Prop) : Prop :=
  ∀ (pins : List (Addr × Obj)) (s : Shared) (σ : St) (H : Hp) (x : V) (xs : List V) (v : Value) (us : List Value) (Q : VK), Inv X pins σ H s → RelV x v → Vals xs us → r x xs H Q →
    wpAny (model X.prog X.w) X.A (call (.builtin id) (v :: us)) (EP X pins σ Q) X.xe s
section
variable {X : Cx} {a b : Expr} {ta tb : TE} {pos : Pos}
theorem IxR.or {r r' : R2} (h : IxR X r) (h' : IxR X r') : IxR X (fun x y H Q => r x y H Q ∨ r' x y H Q) := by
  intro value slice pins s σ H x y v u Q I rx ry q hs
  rcases q with q | q
  · exact h value slice pins s σ H x y v u Q I rx ry q hs
  · exact h' value slice pins s σ H x y v u Q I rx ry q hs
theorem MtR.or {id : String} {r r' : V → List V → Hp → VK → Prop} (h : MtR X id r) (h' : MtR X id r') : MtR X id (fun x xs H Q => r x xs H Q ∨ r' x xs H Q) := by
  intro pins s σ H x xs v us Q I rx rs q
  rcases q with q | q
  · exact h pins s σ H x xs v us Q I rx rs q
  · exact h' pins s σ H x xs v us Q I rx rs q
theorem pe_ix {r : R2} (hr : IxR X r) (ha : PE X a ta) (hb : PE X b tb) (hs : PlainIx b) : PE X (.Subscript a b pos) (tOp r ta tb) := by
  intro pins s σ H Q I h
  exact Subscript_ (binT ha hb I h fun v u s2 x y H2 I2 rx ry q => hr a b pins s2 σ H2 x y v u Q I2 rx ry q (hs _ _))
def rIxL (K : PySem.W.Frag) : R2 := fun x y H Q => ∃ p xs i v, x = .ref p ∧ y = .int i ∧ SqL K H p xs ∧ atI xs i = some v ∧ Q v H
def rIxT (K : PySem.W.Frag) : R2 := fun x y H Q => ∃ p xs i v, x = .ref p ∧ y = .int i ∧ SqT K H p xs ∧ atI xs i = some v ∧ Q v H
def rIxS : R2 := fun x y H Q => ∃ z i c, x = .str z ∧ y = .int i ∧ z.length ≤ sizeLine ∧ atI z.cps.toList i = some c ∧ Q (.str ⟨#[c]⟩) H
theorem ix_list : IxR X (rIxL X.K) := by
  intro value slice pins s σ H x y v u Q I rx ry h hs
  obtain ⟨p, xs, i, z, rfl, rfl, hq, he, q⟩ := h
  cases rx
  obtain ⟨t, rfl⟩ := ry
  obtain ⟨its, r, pl, hz⟩ := I.list hq
  obtain ⟨j, h1, h2, h3, h4, h5⟩ := atI_get he
  obtain ⟨w, ew, rw'⟩ := r.get h2
  have hl := r.length
  have hn := line63
  have fin : EP X pins σ Q w s := ⟨z, H, I, rw', q⟩
  by_cases h0 : 0 ≤ i
  · have hj : i.toNat = j := by
      rw [seqIndex_of h0 h5] at h1
      exact Option.some.inj h1
    exact item_listR pl.isList h0 (by omega) (by rw [hj]; simpa using ew) fin hs
  · have hj : (i + (its.toArray.size : Int)).toNat = j := by
      rw [seqIndex_neg (by omega) h4] at h1
      rw [List.size_toArray, ← hl]
      exact Option.some.inj h1
    exact subscriptTail_builtinR (x := w) pl.isList.typeIs slot_list_getitem.lookup
      (wpAny_getItem_list_neg (Q := fun r s' => r = w ∧ EP X pins σ Q r s') pl.isList (by omega) (by rw [List.size_toArray] <;> omega) (by omega) (by rw [hj]; simpa using ew) ⟨rfl, fin⟩) hs
theorem ix_tup : IxR X (rIxT X.K) := by
  intro value slice pins s σ H x y v u Q I rx ry h hs
  obtain ⟨p, xs, i, z, rfl, rfl, hq, he, q⟩ := h
  cases rx
  obtain ⟨t, rfl⟩ := ry
  obtain ⟨its, r, pl, hz⟩ := I.tuple hq
  obtain ⟨j, h1, h2, h3, h4, h5⟩ := atI_get he
  obtain ⟨w, ew, rw'⟩ := r.get h2
  have hl := r.length
  have hn := line63
  have fin : EP X pins σ Q w s := ⟨z, H, I, rw', q⟩
  exact subscriptTail_builtinR (x := w) pl.typeIs slot_tuple_getitem.lookup
    (getItem_tuple (j := j) (Q := fun r s' => r = w ∧ EP X pins σ Q r s') pl (by omega) (by omega) (by rw [List.size_toArray, ← hl]; exact h1) (by simpa using ew) ⟨rfl, fin⟩) hs
theorem ix_str : IxR X rIxS := by
  intro value slice pins s σ H x y v u Q I rx ry h hs
  obtain ⟨z, i, c, rfl, rfl, hz, he, q⟩ := h
  obtain ⟨t, rfl⟩ := rx
  obtain ⟨t', rfl⟩ := ry
  obtain ⟨j, h1, h2, h3, h4, h5⟩ := atI_get he
  have hl : z.cps.toList.length = z.length := by simp [Str.length]
  rw [hl] at h1 h4 h5
  have hn := line63
  exact tail_any (typeIs_str s z t) slot_str_getitem.lookup (getItem_str (c := c) (by
    have e1 : decide (i < -(2 ^ 63 : Int)) = false := decide_eq_false (by omega)
    have e2 : decide (i ≥ 2 ^ 63) = false := decide_eq_false (by omega)
    rw [e1, e2, Bool.or_false]) (by rw [h1]; simpa using h2) ⟨.str ⟨#[c]⟩, H, I.tok _, ⟨_, rfl⟩, q⟩) hs
def rIx (K : PySem.W.Frag) : R2 := fun x y H Q => rIxL K x y H Q ∨ rIxT K x y H Q ∨ rIxS x y H Q
theorem ix_seq : IxR X (rIx X.K) := ix_list.or (ix_tup.or ix_str)
theorem mapSeq_set (its : List Value) (n j : Nat) (u : Value) : Obj.mapSeq (·.setIfInBounds j u) { cls := .type "list", data := .seq its.toArray n } = { cls := .type "list", data := .seq (its.set j u).toArray n } := by
  simp [Obj.mapSeq]
theorem Inv.lst {pins : List (Addr × Obj)} {σ : St} {H : Hp} {s : Shared} {p : Addr} {xs : List V} (I : Inv X pins σ H s) (h : H p = some (.lst xs)) :
    ∃ (its : List Value) (n : Nat), Vals xs its ∧ s.heap.get? p = some { cls := .type "list", data := .seq its.toArray n } ∧ xs.length ≤ sizeLine := by
  obtain ⟨z, its, n, r, e⟩ := I.hok p _ h
  exact ⟨its, n, r, e, z⟩
theorem Inv.lstUpd {pins : List (Addr × Obj)} {σ : St} {H : Hp} {s : Shared} {p : Addr} {xs ys : List V} {its its' : List Value} {n n' : Nat} {f : Obj → Obj} (I : Inv X pins σ H s) (h : H p = some (.lst xs))
    (ho : s.heap.get? p = some { cls := .type "list", data := .seq its.toArray n }) (hf : f { cls := .type "list", data := .seq its.toArray n } = { cls := .type "list", data := .seq its'.toArray n' }) (r : Vals ys its') (hz : ys.length ≤ sizeLine) (t : Nat) :
    Inv X pins σ (upd H p (.lst ys)) { s with heap := s.heap.update p f, toks := t } := by
  have e : (s.heap.update p f).get? p = some { cls := .type "list", data := .seq its'.toArray n' } := by
    rw [Heap.get?_update_self f ho (by rw [hf] <;> rfl), hf]
  refine I.write (x := p) (e := p) (by rw [h]; trivial) (.inl rfl) (fun b u hb q => (Heap.get?_update_other _ _ (Ne.symm hb)).trans q) ⟨_, e⟩ ?_
  exact ⟨hz, its', n', r, e⟩
def rSetL : V → V → V → Hp → (Hp → Prop) → Prop := fun o i v H Q => ∃ p xs k j, o = .ref p ∧ i = .int k ∧ H p = some (.lst xs) ∧ ixN xs.length k = some j ∧ Q (upd H p (.lst (xs.set j v)))
theorem set_list : PSet X rSetL := by
  intro pins s σ H o i v ov iv u Q I ro ri rv h
  obtain ⟨p, xs, k, j, rfl, rfl, hp, hj, q⟩ := h
  cases ro
  obtain ⟨t, rfl⟩ := ri
  obtain ⟨its, n, r, ho, hz⟩ := I.lst hp
  obtain ⟨h1, h2, h3, h4⟩ := ixN_seq hj
  have hl := r.length
  have hn := line63
  have I' : Inv X pins σ (upd H p (.lst (xs.set j v))) { s with heap := s.heap.update p (Obj.mapSeq (·.setIfInBounds j u)) } :=
    I.lstUpd hp ho (mapSeq_set its n j u) (r.set rv j) (by rw [List.length_set]; exact hz) s.toks
  by_cases h0 : 0 ≤ k
  · have hk : k.toNat = j := by
      rw [seqIndex_of h0 h4] at h1
      exact Option.some.inj h1
    exact PySem.W.ki_setAt ho h0 (by omega) (by rw [List.size_toArray, ← hl]; exact h4) (by rw [hk]; exact ⟨_, I', q⟩)
  · have hk : (k + (its.toArray.size : Int)).toNat = j := by
      rw [seqIndex_neg (by omega) h3] at h1
      rw [List.size_toArray, ← hl]
      exact Option.some.inj h1
    exact PySem.W.ki_setBack ho (by omega) (by rw [List.size_toArray, ← hl]; exact h3) (by omega) (by rw [hk]; exact ⟨_, I', q⟩)
theorem slice_bounds (lo hi : Option Int) (n : Nat) : (sliceBounds lo hi none n).1 = ((HT.sIx n 0 lo : Nat) : Int) ∧ (sliceBounds lo hi none n).2.1 = ((HT.sIx n n hi : Nat) : Int) ∧ (sliceBounds lo hi none n).2.2 = 1 := by
  refine ⟨?_, ?_, rfl⟩
  · cases lo with
    | none => simp [sliceBounds, HT.sIx]
    | some i =>
      simp only [sliceBounds, HT.sIx, Option.getD_none, show (1 : Int) > 0 by decide, if_true]
      by_cases h : i < 0
      · simp only [h, if_true] <;> omega
      · simp only [h, if_false] <;> omega
  · cases hi with
    | none => simp [sliceBounds, HT.sIx]
    | some i =>
      simp only [sliceBounds, HT.sIx, Option.getD_none, show (1 : Int) > 0 by decide, if_true]
      by_cases h : i < 0
      · simp only [h, if_true] <;> omega
      · simp only [h, if_false] <;> omega
theorem slicePick_cut (its : List Value) (lo hi : Option Int) : slicePick its.toArray lo hi none = ((its.drop (HT.sIx its.length 0 lo)).take (HT.sIx its.length its.length hi - HT.sIx its.length 0 lo)).toArray := by
  obtain ⟨h1, h2, h3⟩ := slice_bounds lo hi its.toArray.size
  unfold slicePick
  rw [h1, h2, h3]
  simp only [sliceRange_one, pick_run, List.size_toArray] <;> rfl
def rSlL (K : PySem.W.Frag) : V → Option Int → Option Int → Hp → VK → Prop := fun x lo hi H Q => ∃ a xs, x = .ref a ∧ SqL K H a xs ∧ ∀ p, H p = none → Q (.ref p) (upd H p (.lst (cutV xs lo hi)))
theorem sl_list : SlR X (rSlL X.K) := by
  intro pins s σ H x v vl vu lo hi sl Q I rx hs pl pu h
  obtain ⟨a, xs, rfl, hx, q⟩ := h
  cases rx
  obtain ⟨its, r, ht, hz⟩ := I.list hx
  have hlen := r.length
  refine ⟨"list", _, slot_list_getitem.lookup, ht.isList.typeIs, ?_⟩
  refine wpAny_getItem_list_slice ht.isList hs pl pu .none (by simp) ?_ (by rw [List.size_toArray] <;> omega)
  rw [slicePick_cut, ← hlen]
  refine ⟨.ref s.heap.objs.size, _, I.laid (t' := s.toks) (o := .lst (cutV xs lo hi)) (fun b ob q => Heap.get?_push_of_some _ q) (Nat.le_refl _) ?_, rfl, q _ (I.hok.fresh (Nat.le_refl _))⟩
  exact ⟨Nat.le_trans (cutV_length xs lo hi) hz, _, 0, (r.drop (HT.sIx xs.length 0 lo)).take (HT.sIx xs.length xs.length hi - HT.sIx xs.length 0 lo), Heap.get?_push_size _ rfl⟩
def flatV : V → Bool
  | .non => true
  | .bl _ => true
  | .int _ => true
  | .str _ => true
  | _ => false
def eqV : V → V → Bool
  | .non, .non => true
  | .bl a, .bl b => a == b
  | .bl a, .int b => (if a then 1 else 0) == b
  | .int a, .bl b => a == (if b then 1 else 0)
  | .int a, .int b => a == b
  | .str a, .str b => a == b
  | _, _ => false
theorem eqAt_V {A : Around} {s : Shared} {y x : V} {u v : Value} (ry : RelV y u) (rx : RelV x v) (fy : flatV y = true) (fx : flatV x = true) : SeqAt.EqAt A s u v (eqV y x) := by
  cases y with
  | non =>
    cases ry
    cases x with
    | non => cases rx; exact SeqAt.EqAt.same _
    | bl b => cases rx; exact SeqAt.EqAt.none_bool b
    | int b => obtain ⟨t, rfl⟩ := rx; exact SeqAt.EqAt.none_int b t
    | str b => obtain ⟨t, rfl⟩ := rx; exact SeqAt.EqAt.none_str b t
    | _ => exact absurd (show false = true from fx) Bool.false_ne_true
  | bl a =>
    cases ry
    cases x with
    | non => cases rx; exact SeqAt.EqAt.bool_none a
    | bl b => cases rx; exact SeqAt.EqAt.bool_bool a b
    | int b => obtain ⟨t, rfl⟩ := rx; exact SeqAt.EqAt.bool_int a b t
    | str b => obtain ⟨t, rfl⟩ := rx; exact SeqAt.EqAt.bool_str a b t
    | _ => exact absurd (show false = true from fx) Bool.false_ne_true
  | int a =>
    obtain ⟨t', rfl⟩ := ry
    cases x with
    | non => cases rx; exact SeqAt.EqAt.int_none a t'
    | bl b => cases rx; exact SeqAt.EqAt.int_bool a t' b
    | int b => obtain ⟨t, rfl⟩ := rx; exact SeqAt.EqAt.int_int a t' b t
    | str b => obtain ⟨t, rfl⟩ := rx; exact SeqAt.EqAt.int_str a t' b t
    | _ => exact absurd (show false = true from fx) Bool.false_ne_true
  | str a =>
    obtain ⟨t', rfl⟩ := ry
    cases x with
    | non => cases rx; exact SeqAt.EqAt.str_none a t'
    | bl b => cases rx; exact SeqAt.EqAt.str_bool a t' b
    | int b => obtain ⟨t, rfl⟩ := rx; exact SeqAt.EqAt.str_int a t' b t
    | str b => obtain ⟨t, rfl⟩ := rx; exact SeqAt.EqAt.str_str a t' b t
    | _ => exact absurd (show false = true from fx) Bool.false_ne_true
  | _ => exact absurd (show false = true from fy) Bool.false_ne_true
def eqU (x : V) (u : Value) : Bool := match u with
  | .none => eqV .non x
  | .bool b => eqV (.bl b) x
  | .int i _ => eqV (.int i) x
  | .str z _ => eqV (.str z) x
  | _ => false
theorem eqU_of {x y : V} {u : Value} (r : RelV y u) (f : flatV y = true) : eqU x u = eqV y x := by
  cases y with
  | non => cases r; rfl
  | bl b => cases r; rfl
  | int i => obtain ⟨t, rfl⟩ := r; rfl
  | str z => obtain ⟨t, rfl⟩ := r; rfl
  | _ => exact absurd (show false = true from f) Bool.false_ne_true
theorem any_eqU {x : V} : ∀ {xs : List V} {us : List Value}, Vals xs us → xs.all flatV = true → us.any (eqU x) = xs.any fun y => eqV y x
  | _, _, .nil, _ => rfl
  | y :: xs, u :: us, .cons r t, f => by
    rw [List.all_cons, Bool.and_eq_true] at f
    rw [List.any_cons, List.any_cons, eqU_of r f.1, any_eqU t f.2]
theorem mem_eqAt {A : Around} {s : Shared} {x : V} {v : Value} (rx : RelV x v) (fx : flatV x = true) : ∀ {xs : List V} {us : List Value}, Vals xs us → xs.all flatV = true → ∀ u ∈ us, SeqAt.EqAt A s u v (eqU x u)
  | _, _, .nil, _ => fun u hu => by cases hu
  | y :: xs, u :: us, .cons r t, f => fun u' hu => by
    rw [List.all_cons, Bool.and_eq_true] at f
    rcases List.mem_cons.mp hu with rfl | hu
    · rw [eqU_of r f.1]; exact eqAt_V r rx f.1 fx
    · exact mem_eqAt rx fx t f.2 u' hu
def inV (x : V) (xs : List V) : Bool := xs.any fun y => eqV y x
def rIn (K : PySem.W.Frag) (neg : Bool) : R2 := fun x y H Q => ∃ p xs, y = .ref p ∧ (SqL K H p xs ∨ SqT K H p xs) ∧ flatV x = true ∧ xs.all flatV = true ∧ Q (.bl (if neg then !inV x xs else inV x xs)) H
theorem op_in_seq : OpR X (compareOp .In) (rIn X.K false) := by
  intro pins s σ H x y v u Q I rx ry h
  obtain ⟨p, xs, rfl, hq, fx, fs, q⟩ := h
  cases ry
  rcases hq with hq | hq
  · obtain ⟨its, r, pl, hz⟩ := I.list hq
    refine SeqAt.in_listAt (eqU x) pl.isList (fun w hw => mem_eqAt rx fx r fs w (by simpa using hw)) ⟨.bl _, H, I, rfl, ?_⟩
    rw [show its.toArray.any (eqU x) = its.any (eqU x) by simp, any_eqU r fs]
    exact q
  · obtain ⟨its, r, pl, hz⟩ := I.tuple hq
    refine SeqAt.in_tupleAt (eqU x) pl (fun w hw => mem_eqAt rx fx r fs w (by simpa using hw)) ⟨.bl _, H, I, rfl, ?_⟩
    rw [show its.toArray.any (eqU x) = its.any (eqU x) by simp, any_eqU r fs]
    exact q
theorem op_notIn_seq : OpR X (compareOp .NotIn) (rIn X.K true) := by
  intro pins s σ H x y v u Q I rx ry h
  obtain ⟨p, xs, rfl, hq, fx, fs, q⟩ := h
  cases ry
  rcases hq with hq | hq
  · obtain ⟨its, r, pl, hz⟩ := I.list hq
    refine SeqAt.notIn_listAt (eqU x) pl.isList (fun w hw => mem_eqAt rx fx r fs w (by simpa using hw)) ⟨.bl _, H, I, rfl, ?_⟩
    rw [show its.toArray.any (eqU x) = its.any (eqU x) by simp, any_eqU r fs]
    exact q
  · obtain ⟨its, r, pl, hz⟩ := I.tuple hq
    refine SeqAt.notIn_tupleAt (eqU x) pl (fun w hw => mem_eqAt rx fx r fs w (by simpa using hw)) ⟨.bl _, H, I, rfl, ?_⟩
    rw [show its.toArray.any (eqU x) = its.any (eqU x) by simp, any_eqU r fs]
    exact q
theorem op_notIn_str : OpR X (compareOp .NotIn) (fun x y H Q => ∃ i j, x = .str i ∧ y = .str j ∧ Q (.bl (!(!(Builtin.Str.occurrences j i 0 j.length 1).isEmpty))) H) := by
  intro pins s σ H x y v u Q I rx ry h
  obtain ⟨i, j, rfl, rfl, q⟩ := h
  obtain ⟨t, rfl⟩ := rx
  obtain ⟨t', rfl⟩ := ry
  exact notIn_str ⟨.bl _, H, I, rfl, q⟩
theorem call_len_seq : CallR X (.builtin "len") (fun xs H Q => ∃ p ys, xs = [.ref p] ∧ (SqL X.K H p ys ∨ SqT X.K H p ys) ∧ Q (.int ys.length) H) := by
  intro pins s σ H xs us Q I r h
  obtain ⟨p, ys, rfl, hq, q⟩ := h
  obtain ⟨u, rfl, rx⟩ := vals1 r
  cases rx
  have hn := line63
  rcases hq with hq | hq
  · obtain ⟨its, r', pl, hz⟩ := I.list hq
    have hlen := r'.length
    exact Calls.call_len_list pl.isList (by simp only [List.size_toArray] <;> omega) ⟨.int ys.length, H, I.tok _, ⟨s.toks + 1, by rw [List.size_toArray, hlen]⟩, q⟩
  · obtain ⟨its, r', pl, hz⟩ := I.tuple hq
    have hlen := r'.length
    exact len_tuple pl (by simp only [List.size_toArray] <;> omega) ⟨.int ys.length, H, I.tok _, ⟨s.toks + 1, by rw [List.size_toArray, hlen]⟩, q⟩
theorem call_len_str : CallR X (.builtin "len") (fun xs H Q => ∃ z, xs = [.str z] ∧ z.length ≤ sizeLine ∧ Q (.int z.length) H) := by
  intro pins s σ H xs us Q I r h
  obtain ⟨z, rfl, hz, q⟩ := h
  obtain ⟨u, rfl, t, rfl⟩ := vals1 r
  have hn := line63
  exact len_str (by omega) ⟨.int z.length, H, I.tok _, ⟨_, rfl⟩, q⟩
theorem CallR.or {f : Value} {r r' : List V → Hp → VK → Prop} (h : CallR X f r) (h' : CallR X f r') : CallR X f (fun xs H Q => r xs H Q ∨ r' xs H Q) := by
  intro pins s σ H xs us Q I rs q
  rcases q with q | q
  · exact h pins s σ H xs us Q I rs q
  · exact h' pins s σ H xs us Q I rs q
theorem call_list_of : CallR X (.type "list") (fun xs H Q => ∃ p ys, xs = [.ref p] ∧ (SqL X.K H p ys ∨ SqT X.K H p ys) ∧ ∀ l, H l = none → Q (.ref l) (upd H l (.lst ys))) := by
  intro pins s σ H xs us Q I r h
  obtain ⟨p, ys, rfl, hq, q⟩ := h
  obtain ⟨u, rfl, rx⟩ := vals1 r
  cases rx
  have fin : ∀ (its : List Value), Vals ys its → ys.length ≤ sizeLine → ∀ (h' : Heap) (c' : Nat), (∀ b o', s.heap.get? b = some o' → h'.get? b = some o') →
      h'.get? s.heap.objs.size = some { cls := .type "list", dict := none, data := .seq its.toArray c', slots := #[] } → EP X pins σ Q (.ref s.heap.objs.size) { s with heap := h' } := fun its r' hz h' c' kp e =>
    ⟨.ref s.heap.objs.size, _, I.laid (t' := s.toks) kp (Nat.le_refl _) (show ObjOk X.prog X.w _ h' _ (.lst ys) from ⟨hz, its, c', r', e⟩), rfl, q _ (I.hok.fresh (Nat.le_refl _))⟩
  rcases hq with hq | hq
  · obtain ⟨its, r', pl, hz⟩ := I.list hq
    have hlen := r'.length
    obtain ⟨o, ho, hc, n, hd⟩ := pl.isList
    exact call_list_seq p (.inl rfl) ho hc hd (fun h' c' kp e => fin its r' hz h' c' kp e) (by simp only [List.size_toArray] <;> omega)
  · obtain ⟨its, r', pl, hz⟩ := I.tuple hq
    have hlen := r'.length
    obtain ⟨o, ho, hc, n, hd⟩ := pl
    exact call_list_seq p (.inr rfl) ho hc hd (fun h' c' kp e => fin its r' hz h' c' kp e) (by simp only [List.size_toArray] <;> omega)
theorem call_tuple_of : CallR X (.type "tuple") (fun xs H Q => ∃ p ys, xs = [.ref p] ∧ ((SqL X.K H p ys ∧ ∀ l, H l = none → Q (.ref l) (upd H l (.tup ys))) ∨ (SqT X.K H p ys ∧ Q (.ref p) H))) := by
  intro pins s σ H xs us Q I r h
  obtain ⟨p, ys, rfl, h⟩ := h
  obtain ⟨u, rfl, rx⟩ := vals1 r
  cases rx
  rcases h with ⟨hq, q⟩ | ⟨hq, q⟩
  · obtain ⟨its, r', pl, hz⟩ := I.list hq
    have hlen := r'.length
    refine call_tuple_list pl.isList (fun h' kp => ?_) (by simp only [List.size_toArray] <;> omega)
    have I1 : Inv X pins σ H { s with heap := h' } := I.kept (t' := s.toks) kp
    have I2 : Inv X pins σ (upd H h'.objs.size (.tup ys)) { s with heap := h'.push { cls := .type "tuple", data := .seq its.toArray } } :=
      I1.laid (t' := s.toks) (fun b o e => Heap.get?_push_of_some _ e) (Nat.le_refl _) (show ObjOk X.prog X.w _ _ _ (.tup ys) from ⟨hz, its, r', IsTup.new _ _⟩)
    exact ⟨.ref h'.objs.size, _, I2, rfl, q _ (I1.hok.fresh (Nat.le_refl _))⟩
  · obtain ⟨its, r', pl, hz⟩ := I.tuple hq
    exact call_tuple_same pl ⟨.ref p, H, I, rfl, q⟩
def tyV (K : PySem.W.Frag) (T : String) (x : V) (H : Hp) : Prop := match x with
  | .str _ => T = "str"
  | .int _ => T = "int"
  | .ref p => (T = "list" ∧ ∃ xs, SqL K H p xs) ∨ (T = "tuple" ∧ ∃ o, K.lookup p = some o ∧ o.cls = .type "tuple" ∧ o.dict = none) ∨
      (T = "dict" ∧ ((∃ kvs, H p = some (.dK kvs)) ∨ ∃ kvs, H p = some (.dT kvs))) ∨ (T = "set" ∧ ∃ S n, H p = some (.set S n))
  | _ => False
theorem tyV_is {pins : List (Addr × Obj)} {σ : St} {H : Hp} {s : Shared} {T : String} {x : V} {v : Value} (I : Inv X pins σ H s) (r : RelV x v) (ty : tyV X.K T x H) :
    s.TypeIs v T ∧ ∀ a, v = .ref a → ∃ ob, s.heap.get? a = some ob ∧ ob.dict = none := by
  cases x with
  | str z =>
    obtain ⟨t, rfl⟩ := r
    cases (show T = "str" from ty)
    exact ⟨typeIs_str s z t, fun _ e => nomatch e⟩
  | int i =>
    obtain ⟨t, rfl⟩ := r
    cases (show T = "int" from ty)
    exact ⟨typeIs_int s i t, fun _ e => nomatch e⟩
  | ref p =>
    cases r
    rcases ty with ⟨rfl, xs, hq⟩ | ⟨rfl, o, hk, hc, hd⟩ | ⟨rfl, hk⟩ | ⟨rfl, S, n, hk⟩
    · obtain ⟨its, _, pl, _⟩ := I.list hq
      refine ⟨pl.isList.typeIs, fun a e => ?_⟩
      cases e
      obtain ⟨o, n, e, c, hd, _⟩ := pl
      exact ⟨o, e, hd⟩
    · refine ⟨⟨o, I.kIn p o hk, hc⟩, fun a e => ?_⟩
      cases e
      exact ⟨o, I.kIn _ o hk, hd⟩
    · have z : ∃ o, s.heap.get? p = some o ∧ o.ExactDict := by
        rcases hk with ⟨kvs, hk⟩ | ⟨kvs, hk⟩
        · obtain ⟨_, _, _, _, o, _, _, e, ex, _⟩ := I.hok p _ hk
          exact ⟨o, e, ex⟩
        · obtain ⟨_, _, _, _, o, _, _, e, ex, _⟩ := I.hok p _ hk
          exact ⟨o, e, ex⟩
      obtain ⟨o, e, ex⟩ := z
      refine ⟨⟨o, e, ex.1⟩, fun a e2 => ?_⟩
      cases e2
      exact ⟨o, e, ex.2.1⟩
    · obtain ⟨o, _, _, _, e, ex, _⟩ := I.hok p _ hk
      refine ⟨⟨o, e, ex.1⟩, fun a e2 => ?_⟩
      cases e2
      exact ⟨o, e, ex.2.1⟩
  | _ => exact False.elim ty
def tBM0 (K : PySem.W.Frag) (T : String) (r : V → List V → Hp → VK → Prop) (to : TE) : TE := fun σ H Q => to σ H fun x H1 => tyV K T x H1 ∧ r x [] H1 Q
def tBM (K : PySem.W.Frag) (T : String) (r : V → List V → Hp → VK → Prop) (to : TE) (t : TA) : TE := fun σ H Q => to σ H fun x H1 => tyV K T x H1 ∧ t σ H1 fun xs H2 => r x xs H2 Q
variable {o e : Expr} {es : List Expr} {to : TE} {t : TA} {name : Str} {apos cpos : Pos} {T id : String} {r : V → List V → Hp → VK → Prop}
theorem pe_bm0 (pa : PlainAttrs T) (slot : Slot T name id) (hty : typeOf (.builtin id) = pure (.type "method_descriptor")) (hm : MtR X id r) (ho : PE X o to)
    (hbase : attributeBase o name X.env (eval o X.env) = eval o X.env := by rfl) (hline : (apos.endLine == cpos.line) = true := by rfl) : PE X (.Call (.Attribute o name apos) [] [] cpos) (tBM0 X.K T r to) := by
  intro pins s σ H Q I h
  refine wpAny_Call_method0_late hbase hline (thn (ho pins s σ H _ I h) fun v s1 ⟨x, H1, I1, r1, ty, q1⟩ => ?_)
  obtain ⟨h1, h2⟩ := tyV_is I1 r1 ty
  exact ⟨T, id, pa, slot, hty, h1, h2, Calls.callWith_builtin rfl (PySem.evalArgs_none (hm pins s1 σ H1 x [] v [] Q I1 r1 .nil q1))⟩
theorem pe_bm (pa : PlainAttrs T) (slot : Slot T name id) (hty : typeOf (.builtin id) = pure (.type "method_descriptor")) (hm : MtR X id r) (ho : PE X o to) (ha : PA X (e :: es) t)
    (hbase : attributeBase o name X.env (eval o X.env) = eval o X.env := by rfl)
    (hfew : ((backTo cpos (starEach (e :: es) X.env)).all (fun x => !x.1) && (backToKw cpos (keywordEach [] X.env)).all (fun x => x.1.isSome)
      && decide ((e :: es).length + ([] : List Keyword).length + (if ([] : List Keyword).isEmpty then 0 else 1) < 30)) = true := by rfl)
    (hline : (apos.endLine == cpos.line) = true := by rfl) (hs : starEach (e :: es) X.env = (false, eval e X.env) :: starEach es X.env := by rfl) (hplain : (backTo cpos (starEach es X.env)).any (·.1) = false := by rfl) :
    PE X (.Call (.Attribute o name apos) (e :: es) [] cpos) (tBM X.K T r to t) := by
  intro pins s σ H Q I h
  refine wpAny_Call_method_late hbase hfew hline rfl (thn (ho pins s σ H _ I h) fun v s1 ⟨x, H1, I1, r1, ty, q1⟩ => ?_)
  obtain ⟨h1, h2⟩ := tyV_is I1 r1 ty
  refine ⟨T, id, pa, slot, hty, h1, h2, ?_⟩
  have hA := ha cpos pins s1 σ H1 _ I1 q1
  rw [hs] at hA ⊢
  refine Calls.callWith_builtin (by show (false || (backTo cpos (starEach es X.env)).any (·.1)) = false; rw [hplain] <;> rfl) (Calls.evalArgs_plain ?_)
  exact thn hA fun us s2 ⟨vs, H2, I2, r2, q2⟩ => hm pins s2 σ H2 x vs v us Q I2 r1 r2 q2
/- xs.append(e), list.index on a module's tuple .. are MtR facts of 06m -/
end
end L2
namespace L2
open PySem PySem.Spec PyProof.Rows
def MtM (X : Cx) (id : String) (r : V → List V → Hp → VK → Prop) : Prop :=
  ∀ (pins : List (Addr × Obj)) (s : Shared) (σ : St) (H : Hp) (x : V) (xs : List V) (v : Value) (us : List Value) (Q : VK), Inv X pins σ H s → RelV x v → Vals xs us → r x xs H Q →
    wpAny (model X.prog X.w) X.A (call (.builtin id) (v :: us)) (EP X pins σ Q) X.xe s
theorem Vals.one : ∀ {x : V} {us : List Value}, Vals [x] us → ∃ u, us = [u] ∧ RelV x u
  | _, _, .cons r .nil => ⟨_, rfl, r⟩
theorem Vals.two : ∀ {x y : V} {us : List Value}, Vals [x, y] us → ∃ u v, us = [u, v] ∧ RelV x u ∧ RelV y v
  | _, _, _, .cons r (.cons q .nil) => ⟨_, _, rfl, r, q⟩
theorem Vals.zero : ∀ {us : List Value}, Vals [] us → us = []
  | _, .nil => rfl
theorem Vals.dropLast {xs : List V} {us : List Value} (h : Vals xs us) : Vals xs.dropLast us.dropLast := by
  induction h with
  | nil => exact .nil
  | cons r t ih =>
    cases t with
    | nil => exact .nil
    | cons q t' => exact .cons r ih
theorem Vals.eraseIdx : ∀ {xs : List V} {us : List Value} (i : Nat), Vals xs us → Vals (xs.eraseIdx i) (us.eraseIdx i)
  | _, _, _, .nil => .nil
  | _, _, 0, .cons _ t => t
  | _, _, i + 1, .cons r t => .cons r (Vals.eraseIdx i t)
theorem Vals.reverse {xs : List V} {us : List Value} (h : Vals xs us) : Vals xs.reverse us.reverse := by
  induction h with
  | nil => exact .nil
  | cons r t ih => rw [List.reverse_cons, List.reverse_cons]; exact Vals.append ih (.cons r .nil)
theorem Vals.rep {xs : List V} {us : List Value} (h : Vals xs us) : ∀ k : Nat, Vals (List.replicate k xs).flatten (List.replicate k us).flatten
  | 0 => .nil
  | k + 1 => by
    rw [List.replicate_succ, List.replicate_succ, List.flatten_cons, List.flatten_cons]
    exact Vals.append h (Vals.rep h k)
theorem erase_last {α : Type} (l : List α) : l.eraseIdx (l.length - 1) = l.dropLast := by
  induction l with
  | nil => rfl
  | cons a r ih =>
    cases r with
    | nil => rfl
    | cons b r =>
      have e : (a :: b :: r).length - 1 = ((b :: r).length - 1) + 1 := by
        have h1 : (a :: b :: r).length = r.length + 2 := rfl
        have h2 : (b :: r).length = r.length + 1 := rfl
        omega
      rw [e, List.eraseIdx_cons_succ, ih]
      all_goals rfl
theorem len_erase {α : Type} : ∀ (l : List α) (i : Nat), (l.eraseIdx i).length ≤ l.length
  | [], _ => Nat.le_refl _
  | _ :: _, 0 => Nat.le_succ _
  | _ :: r, i + 1 => Nat.succ_le_succ (len_erase r i)
theorem foldl_rep (its : List Value) : ∀ (k : Nat) (acc : List Value),
    List.foldl (fun x1 x2 => x1 ++ x2) acc.toArray (List.replicate k its.toArray) = (acc ++ (List.replicate k its).flatten).toArray
  | 0, acc => by simp
  | k + 1, acc => by
    have e : acc.toArray ++ its.toArray = (acc ++ its).toArray := by simp
    have e2 : (acc ++ its) ++ (List.replicate k its).flatten = acc ++ (List.replicate (k + 1) its).flatten := by
      rw [List.replicate_succ, List.flatten_cons, List.append_assoc]
    rw [← e2, ← foldl_rep its k (acc ++ its), ← e, List.replicate_succ, List.foldl_cons]
section
variable {X : Cx} {pins : List (Addr × Obj)} {σ : St} {H : Hp} {s : Shared} {l b : Addr} {xs ys zs : List V}
theorem Inv.lset {its its' : List Value} {n : Nat} {f : Array Value → Array Value} {t' : Nat} (I : Inv X pins σ H s) (hH : H l = some (.lst xs))
    (e : s.heap.get? l = some { cls := .type "list", data := .seq its.toArray n }) (hf : f its.toArray = its'.toArray) (hv : Vals ys its') (hz : ys.length ≤ sizeLine) :
    Inv X pins σ (upd H l (.lst ys)) { s with heap := s.heap.update l (Obj.mapSeq f), toks := t' } := by
  have q := PySem.IsL.update e f
  rw [hf] at q
  refine I.write (x := l) (e := l) (by rw [hH]; exact trivial) (.inl rfl) (fun b' u hb hu => (Heap.get?_update_other s.heap (Obj.mapSeq f) (Ne.symm hb)).trans hu) ⟨_, q⟩ ?_
  exact ⟨hz, its', _, hv, q⟩
theorem Inv.lnew {its : List Value} {t' : Nat} (I : Inv X pins σ H s) (hv : Vals ys its) (hz : ys.length ≤ sizeLine) :
    Inv X pins σ (upd H s.heap.objs.size (.lst ys)) { s with heap := s.heap.push { cls := .type "list", data := .seq its.toArray }, toks := t' } :=
  I.laid (fun _ _ q => Heap.get?_push_of_some _ q) (Nat.le_refl _) ⟨hz, its, 0, hv, Heap.get?_push_size _ rfl⟩
theorem Inv.fresh (I : Inv X pins σ H s) : H s.heap.objs.size = none := I.hok.fresh (Nat.le_refl _)
theorem Inv.lstM (I : Inv X pins σ H s) (hH : H l = some (.lst xs)) : xs.length ≤ sizeLine ∧ ∃ (its : List Value) (n : Nat), Vals xs its ∧ xs.length = its.length ∧ s.heap.get? l = some { cls := .type "list", data := .seq its.toArray n } := by
  obtain ⟨z, its, n, r, e⟩ := I.hok l _ hH
  exact ⟨z, its, n, r, r.length, e⟩
theorem notLongL {n : Nat} (h : n ≤ sizeLine) : Builtin.List.listTooLong n = false := by
  unfold Builtin.List.listTooLong
  exact decide_eq_false (by omega)
end
section
variable {X : Cx}
def rAppend : V → List V → Hp → VK → Prop := fun x vs H Q => ∃ l xs y, x = .ref l ∧ vs = [y] ∧ H l = some (.lst xs) ∧ xs.length < sizeLine ∧ Q .non (upd H l (.lst (xs ++ [y])))
theorem mt_append : MtM X "list.append" rAppend := by
  intro pins s σ H x vs v us Q I rx rv h
  obtain ⟨l, xs, y, rfl, rfl, hH, hz, q⟩ := h
  cases rx
  obtain ⟨u, rfl, ru⟩ := rv.one
  obtain ⟨z, its, n, r, hl, e⟩ := I.lstM hH
  refine call_meets F.slot_list_append ⟨_, e, rfl⟩ F.entry_list_append (F.args_list_append_2 _ _) (PySem.list_append l its.toArray n u (by rw [List.size_toArray]; omega)) ⟨e, ?_⟩
  refine ⟨.non, _, I.lset (its' := its ++ [u]) hH e (by simp) (r.append (.cons ru .nil)) ?_, rfl, q⟩
  rw [List.length_append, List.length_singleton]
  omega
def rExtend : V → List V → Hp → VK → Prop := fun x vs H Q => ∃ l b xs zs, x = .ref l ∧ vs = [.ref b] ∧ H l = some (.lst xs) ∧ H b = some (.lst zs) ∧ xs.length + zs.length ≤ sizeLine ∧ Q .non (upd H l (.lst (xs ++ zs)))
theorem mt_extend : MtM X "list.extend" rExtend := by
  intro pins s σ H x vs v us Q I rx rv h
  obtain ⟨l, b, xs, zs, rfl, rfl, hH, hB, hz, q⟩ := h
  cases rx
  obtain ⟨u, rfl, ru⟩ := rv.one
  cases ru
  obtain ⟨z, its, n, r, hl, e⟩ := I.lstM hH
  obtain ⟨z2, its2, n2, r2, hl2, e2⟩ := I.lstM hB
  have hsz : its.toArray.size + its2.toArray.size ≤ sizeLine := by rw [List.size_toArray, List.size_toArray]; omega
  have hlong : ¬ (!its.toArray.isEmpty && Builtin.List.listTooLong (its.toArray.size + its2.toArray.size)) = true := by
    rw [notLongL hsz, Bool.and_false]
    exact Bool.false_ne_true
  refine call_meets F.slot_list_extend ⟨_, e, rfl⟩ F.entry_list_extend (F.args_list_extend_2 _ _)
    (AutoSeq1.list_extend_list_list_0 l its.toArray n b its2.toArray n2 hlong (by rw [List.size_toArray]; omega) (by omega)) ⟨e, e2, ?_⟩
  refine ⟨.non, _, I.lset (its' := its ++ its2) hH e (by simp) (r.append r2) ?_, rfl, q⟩
  rw [List.length_append]
  omega
def rPop : V → List V → Hp → VK → Prop := fun x vs H Q => ∃ l xs y, x = .ref l ∧ vs = [] ∧ H l = some (.lst xs) ∧ xs[xs.length - 1]? = some y ∧ Q y (upd H l (.lst xs.dropLast))
theorem mt_pop : MtM X "list.pop" rPop := by
  intro pins s σ H x vs v us Q I rx rv h
  obtain ⟨l, xs, y, rfl, rfl, hH, hy, q⟩ := h
  cases rx
  have hus := rv.zero
  subst hus
  obtain ⟨z, its, n, r, hl, e⟩ := I.lstM hH
  obtain ⟨u, hu, ru⟩ := r.get hy
  have hy' : its.toArray[its.toArray.size - 1]? = some u := by
    show its.toArray[its.length - 1]? = some u
    rw [← Array.getElem?_toList, ← hl]
    exact hu
  refine call_meets F.slot_list_pop ⟨_, e, rfl⟩ F.entry_list_pop (F.args_list_pop_1 _) (MeetsSeq.list_pop_last l its.toArray n u hy' (by rw [List.size_toArray]; omega)) ⟨e, ?_⟩
  refine ⟨y, _, I.lset (its' := its.dropLast) hH e ?_ r.dropLast ?_, ru, q⟩
  · show its.toArray.eraseIdxIfInBounds (its.toArray.size - 1) = its.dropLast.toArray
    rw [List.size_toArray, List.eraseIdxIfInBounds_toArray, erase_last]
  · rw [List.length_dropLast]
    omega
def rPopAt : V → List V → Hp → VK → Prop := fun x vs H Q => ∃ l xs i k y, x = .ref l ∧ vs = [.int i] ∧ H l = some (.lst xs) ∧ -(2 ^ 63) ≤ i ∧ i < 2 ^ 63 ∧ seqIndex? i xs.length = some k ∧ xs[k]? = some y ∧ Q y (upd H l (.lst (xs.eraseIdx k)))
theorem mt_popAt : MtM X "list.pop" rPopAt := by
  intro pins s σ H x vs v us Q I rx rv h
  obtain ⟨l, xs, i, k, y, rfl, rfl, hH, h1, h2, hk, hy, q⟩ := h
  cases rx
  obtain ⟨u, rfl, ru⟩ := rv.one
  obtain ⟨t, rfl⟩ := ru
  obtain ⟨z, its, n, r, hl, e⟩ := I.lstM hH
  obtain ⟨w, hw, rw'⟩ := r.get hy
  refine call_meets F.slot_list_pop ⟨_, e, rfl⟩ F.entry_list_pop (F.args_list_pop_2 _ _)
    (MeetsSeq.list_pop_at l its.toArray n i t k w (fitsIndex_both h1 h2) (by rw [List.size_toArray, ← hl]; exact hk) (by rw [← Array.getElem?_toList]; exact hw) (by rw [List.size_toArray]; omega)) ⟨e, ?_⟩
  refine ⟨y, _, I.lset (its' := its.eraseIdx k) hH e ?_ (r.eraseIdx k) ?_, rw', q⟩
  · show its.toArray.eraseIdxIfInBounds k = (its.eraseIdx k).toArray
    rw [List.eraseIdxIfInBounds_toArray]
  · have := len_erase xs k
    omega
def rReverse : V → List V → Hp → VK → Prop := fun x vs H Q => ∃ l xs, x = .ref l ∧ vs = [] ∧ H l = some (.lst xs) ∧ Q .non (upd H l (.lst xs.reverse))
theorem mt_reverse : MtM X "list.reverse" rReverse := by
  intro pins s σ H x vs v us Q I rx rv h
  obtain ⟨l, xs, rfl, rfl, hH, q⟩ := h
  cases rx
  have hus := rv.zero
  subst hus
  obtain ⟨z, its, n, r, hl, e⟩ := I.lstM hH
  refine call_meets F.slot_list_reverse ⟨_, e, rfl⟩ F.entry_list_reverse (F.args_list_reverse_1 _) (AutoSeq1.list_reverse_list_0 l its.toArray n (by rw [List.size_toArray]; omega)) ⟨e, ?_⟩
  refine ⟨.non, _, I.lset (its' := its.reverse) hH e (by simp) r.reverse ?_, rfl, q⟩
  rw [List.length_reverse]
  omega
def rClear : V → List V → Hp → VK → Prop := fun x vs H Q => ∃ l xs, x = .ref l ∧ vs = [] ∧ H l = some (.lst xs) ∧ Q .non (upd H l (.lst []))
theorem mt_clear : MtM X "list.clear" rClear := by
  intro pins s σ H x vs v us Q I rx rv h
  obtain ⟨l, xs, rfl, rfl, hH, q⟩ := h
  cases rx
  have hus := rv.zero
  subst hus
  obtain ⟨z, its, n, r, hl, e⟩ := I.lstM hH
  refine call_meets F.slot_list_clear ⟨_, e, rfl⟩ F.entry_list_clear (F.args_list_clear_1 _) (AutoSeq1.list_clear_list_0 l its.toArray n (by rw [List.size_toArray]; omega)) ⟨e, ?_⟩
  exact ⟨.non, _, I.lset (its' := []) (ys := []) hH e rfl .nil (Nat.zero_le _), rfl, q⟩
def rCat : R2 := fun x y H Q => ∃ l b xs zs, x = .ref l ∧ y = .ref b ∧ H l = some (.lst xs) ∧ H b = some (.lst zs) ∧ xs.length + zs.length ≤ sizeLine ∧ ∀ p, H p = none → Q (.ref p) (upd H p (.lst (xs ++ zs)))
theorem op_cat : OpR X (binaryOp .Add) rCat := by
  intro pins s σ H x y v u Q I rx ry h
  obtain ⟨l, b, xs, zs, rfl, rfl, hH, hB, hz, q⟩ := h
  cases rx
  cases ry
  obtain ⟨z, its, n, r, hl, e⟩ := I.lstM hH
  obtain ⟨z2, its2, n2, r2, hl2, e2⟩ := I.lstM hB
  refine PySem.P.add_list e e2 ?_ (by rw [List.size_toArray, List.size_toArray]; omega)
  have ea : its.toArray ++ its2.toArray = (its ++ its2).toArray := by simp
  rw [ea]
  exact ⟨.ref _, _, I.lnew (t' := s.toks) (r.append r2) (by rw [List.length_append]; omega), rfl, q _ I.fresh⟩
def rRep : R2 := fun x y H Q => ∃ l k xs, x = .ref l ∧ y = .int k ∧ H l = some (.lst xs) ∧ -(2 ^ 63) ≤ k ∧ k < 2 ^ 63 ∧ xs.length * k.toNat ≤ sizeLine ∧
  ∀ p, H p = none → Q (.ref p) (upd H p (.lst (List.replicate k.toNat xs).flatten))
theorem len_rep {α : Type} (xs : List α) (k : Nat) : (List.replicate k xs).flatten.length = k * xs.length := by
  induction k with
  | zero => simp
  | succ k ih => rw [List.replicate_succ, List.flatten_cons, List.length_append, ih, Nat.succ_mul, Nat.add_comm]
theorem op_rep : OpR X (binaryOp .Mult) rRep := by
  intro pins s σ H x y v u Q I rx ry h
  obtain ⟨l, k, xs, rfl, rfl, hH, h1, h2, hz, q⟩ := h
  cases rx
  obtain ⟨t, rfl⟩ := ry
  obtain ⟨z, its, n, r, hl, e⟩ := I.lstM hH
  have hlen : its.toArray.size * k.toNat ≤ sizeLine := by rw [List.size_toArray, ← hl]; exact hz
  have hcap : ¬ its.toArray.size * k.toNat > (2 ^ 63 - 1) / 8 := by
    have : (sizeLine : Nat) ≤ (2 ^ 63 - 1) / 8 := by decide
    omega
  have hfit : ¬ (!Builtin.List.listFitsIndex k) = true := by
    rw [fitsIndex_both h1 h2]
    exact Bool.false_ne_true
  have hlong : ¬ Builtin.List.listTooLong (its.toArray.size * k.toNat) = true := by
    rw [notLongL hlen]
    exact Bool.false_ne_true
  have hnew : List.foldl (fun x1 x2 => x1 ++ x2) #[] (List.replicate (if its.toArray.isEmpty = true then 0 else k.toNat) its.toArray) = (List.replicate k.toNat its).flatten.toArray := by
    have f0 : ∀ m : Nat, List.foldl (fun x1 x2 => x1 ++ x2) #[] (List.replicate m its.toArray) = (List.replicate m its).flatten.toArray := fun m => by
      have := foldl_rep its m []
      rw [List.nil_append] at this
      exact this
    rw [f0]
    cases its with
    | nil => simp
    | cons a r' => rw [if_neg (by simp)]
  refine wpAny_binaryOp_repeat_ref (T := "list") (U := "int") (by decide) ⟨_, e, rfl⟩ (fun s' => typeIs_int s' k t) noFill_list_mul F.fills_int_mul F.slot_int_rmul repeat_list F.slot_int_index.lookup
    (call_meets F.slot_int_rmul (typeIs_int s k t) F.entry_int_rmul (F.args_int_rmul_2 _ _) (int___rmul___int_list k t l its.toArray n)
      ⟨e, rfl, ⟨_, e, rfl⟩, call_meets F.slot_list_mul ⟨_, e, rfl⟩ F.entry_list_mul (F.args_list_mul_2 _ _) (AutoListH.list___mul___list_int_3 l its.toArray n k t hfit hcap hlong) ⟨e, ?_⟩⟩)
  rw [hnew]
  exact ⟨.ref _, _, I.lnew (t' := s.toks) (r.rep k.toNat) (by rw [len_rep, Nat.mul_comm]; exact hz), rfl, q _ I.fresh⟩
theorem del_list {pins : List (Addr × Obj)} {s : Shared} {σ : St} {H : Hp} {l : Addr} {xs : List V} {i : Int} {t : Tok} {k : Nat} {Q : Unit → Shared → Prop} (I : Inv X pins σ H s) (hH : H l = some (.lst xs))
    (h1 : -(2 ^ 63) ≤ i) (h2 : i < 2 ^ 63) (hk : seqIndex? i xs.length = some k) (h : ∀ s', Inv X pins σ (upd H l (.lst (xs.eraseIdx k))) s' → Q () s') :
    wpAny (model X.prog X.w) X.A (delItem (.ref l) (.int i t)) Q X.xe s := by
  obtain ⟨z, its, n, r, hl, e⟩ := I.lstM hH
  refine PySem.P.delItem_list (k := k) e (fitsIndex_both h1 h2) (by rw [List.size_toArray, ← hl]; exact hk) (h _ ?_) (by rw [List.size_toArray]; omega)
  refine I.lset (its' := its.eraseIdx k) (t' := s.toks) hH e ?_ (r.eraseIdx k) ?_
  · show its.toArray.eraseIdxIfInBounds k = (its.eraseIdx k).toArray
    rw [List.eraseIdxIfInBounds_toArray]
  · have := len_erase xs k
    omega
end
section
variable {prog : Program} {w : World} {A : Around} {E : Value → Shared → Prop} {s : Shared}
theorem splice_eq (its its2 : List Value) (a c : Nat) : its.toArray.extract 0 a ++ its2.toArray ++ its.toArray.extract c its.toArray.size = (its.take a ++ its2 ++ its.drop c).toArray := by
  apply Array.toList_inj.mp
  first
    | (simp
       exact List.take_of_length_le (by simp))
    | simp [List.take_of_length_le]
    | simp
theorem bounds_run {a c n : Nat} (hac : a ≤ c) (hc : c ≤ n) : sliceBounds (some (a : Int)) (some (c : Int)) none n = ((a : Int), (c : Int), 1) := by
  simp only [sliceBounds, Option.getD_none]
  have h1 : ¬ ((a : Int) < 0) := by omega
  have h2 : ¬ ((c : Int) < 0) := by omega
  simp only [h1, h2, if_false, show (1 : Int) > 0 by decide, if_true]
  congr 1
  · omega
  · congr 1; omega
set_option maxRecDepth 100000 in
theorem setItem_slice {l b sl : Addr} {items new : Array Value} {n n2 : Nat} {vl vu : Value} {a c : Nat} {Q : Unit → Shared → Prop}
    (e : s.heap.get? l = some { cls := .type "list", data := .seq items n }) (e2 : s.heap.get? b = some { cls := .type "list", data := .seq new n2 }) (hne : l ≠ b)
    (hs : s.heap.IsSliceOf sl vl vu .none) (pl : IsPart vl (some (a : Int))) (pu : IsPart vu (some (c : Int))) (hac : a ≤ c) (hc : c ≤ items.size)
    (hsz : items.size + new.size ≤ sizeLine) (h : Q () { s with heap := s.heap.update l (Obj.mapSeq fun xs => xs.extract 0 a ++ new ++ xs.extract c xs.size) }) :
    wpAny (model prog w) A (setItem (.ref l) (.ref sl) (.ref b)) Q E s := by
  have hl : s.heap.IsList l items := PySem.IsL.isList e
  have hb : s.heap.IsList b new := PySem.IsL.isList e2
  obtain ⟨os, hos, hcs, hds⟩ := id hs
  have hTs : s.TypeIs (.ref sl) "slice" := ⟨os, hos, hcs⟩
  have hstep : ¬ ((rawPart none == rawInt 0) = true) := Bool.false_ne_true
  have hsame : Builtin.List.listSameRef (.ref l) (.ref b) = false := by
    unfold Builtin.List.listSameRef
    exact beq_eq_false_iff_ne.mpr hne
  have hmax : (max (a : Int) (c : Int)).toNat = c := by omega
  have hz' : ((fun xs : Array Value => xs.extract 0 a ++ new ++ xs.extract c xs.size) items).size ≤ sizeLine + 1 := by
    simp only [Array.size_append, Array.size_extract]
    omega
  unfold setItem
  try with_reducible refine wpAny_holding ?_
  first | refine wpAny_bind (wpAny_pure ?_) | skip
  refine wpAny_bind (wpAny_sequenceKey hl.typeIs (by decide) ?_)
  refine wpAny_bind (wpAny_callSpecial?_slot (name := Str.ofString "__setitem__") hl.typeIs slot_list_setitem
    (wpAny_call_entry slot_list_setitem hl.typeIs entry_list_setitem ?_ (args_list_setitem _ _ _)))
  show wpAny _ _ (Builtin.List.listSubscript? (.ref sl) >>= _) _ _ s
  refine wpAny_bind ?_
  unfold Builtin.List.listSubscript?
  refine wpAny_bind (wpAny_specialOf hTs slice_no_index ?_)
  simp only [Option.isNone_none, if_true]
  refine wpAny_pure ?_
  show wpAny _ _ (typeOf (.ref sl) >>= _) _ _ s
  refine wpAny_bind (wpAny_typeOf hTs ?_)
  first
    | rw [if_neg (by decide)]
    | refine PySem.W.KFB.if_not (by decide) ?_
  rw [listSliceParts_eq]
  refine wpAny_bind (wpAny_bind (wpAny_field hos hds (x := .none) rfl (wpAny_bind (wpAny_listPart .none ?_))))
  rw [if_neg hstep]
  refine wpAny_bind (wpAny_field hos hds (x := vl) rfl (wpAny_bind (wpAny_listPart pl ?_)))
  refine wpAny_bind (wpAny_field hos hds (x := vu) rfl (wpAny_bind (wpAny_listPart pu (wpAny_pure ?_))))
  first
    | simp only [hsame, Bool.false_eq_true, if_false]
    | refine PySem.W.KFB.if_not hsame ?_
    | (dsimp only
       rw [if_neg (by rw [hsame]; exact Bool.false_ne_true)])
  refine wpAny_bind (m := Builtin.List.listAllItems (.ref b) "must assign iterable to extended slice") ?_
  unfold Builtin.List.listAllItems
  refine wpAny_bind (wpAny_typeOf hb.typeIs ?_)
  first
    | refine PySem.W.KFB.if_so (by decide) ?_
    | rw [if_pos (by decide)]
    | simp only [beq_self_eq_true, Bool.true_or, if_true]
  unfold Builtin.List.listItems
  refine wpAny_bind (wpAny_seqItems e2 rfl (wpAny_pure ?_))
  refine wpAny_bind (wpAny_bind (wpAny_seqItems e rfl (wpAny_pure ?_)))
  refine wpAny_bind (wpAny_of_eq ((sliceIndices_raw (some (a : Int)) (some (c : Int)) none items.size (by simp)).trans (congrArg (pure : Int × Int × Int → Sem (Int × Int × Int)) (bounds_run hac hc))) ?_)
  show wpAny _ _ (if ((1 : Int) == 1) = true then _ else _) _ _ s
  rw [if_pos (by decide)]
  refine wpAny_bind (wpAny_rule ?_)
  first
    | simp only [notLongL hsz, Bool.false_eq_true, if_false]
    | refine PySem.W.KFB.if_not (notLongL hsz) ?_
  first | refine wpAny_bind (wpAny_pure ?_) | skip
  show wpAny _ _ (updateSeq l (fun xs => xs.extract 0 ((a : Int)).toNat ++ new ++ xs.extract (max (a : Int) (c : Int)).toNat xs.size) >>= _) _ _ s
  rw [hmax, Int.toNat_natCast]
  refine wpAny_bind (wpAny_updateSeq (hz := Nat.le_trans (Nat.le_add_right _ _) hsz) (_hz' := hz') e rfl ?_)
  refine wpAny_bind (wpAny_letGo ?_)
  first
    | exact wpAny_bind (wpAny_pure (wpAny_pure ⟨.none, rfl, wpAny_pure h⟩))
    | exact wpAny_pure ⟨.none, rfl, wpAny_pure h⟩
end
section
variable {X : Cx}
theorem set_slice {pins : List (Addr × Obj)} {s : Shared} {σ : St} {H : Hp} {l b sl : Addr} {xs ys : List V} {a c : Int} {vl vu : Value} {Q : Unit → Shared → Prop} (I : Inv X pins σ H s)
    (hH : H l = some (.lst xs)) (hB : H b = some (.lst ys)) (hne : l ≠ b) (hs : s.heap.IsSliceOf sl vl vu .none) (ra : RelV (.int a) vl) (rc : RelV (.int c) vu) (h0 : 0 ≤ a) (hac : a ≤ c) (hc : c ≤ xs.length)
    (hz : xs.length + ys.length ≤ sizeLine) (h : ∀ s', Inv X pins σ (upd H l (.lst (xs.take a.toNat ++ ys ++ xs.drop c.toNat))) s' → Q () s') :
    wpAny (model X.prog X.w) X.A (setItem (.ref l) (.ref sl) (.ref b)) Q X.xe s := by
  obtain ⟨ta, rfl⟩ := ra
  obtain ⟨tc, rfl⟩ := rc
  obtain ⟨z, its, n, r, hl, e⟩ := I.lstM hH
  obtain ⟨z2, its2, n2, r2, hl2, e2⟩ := I.lstM hB
  obtain ⟨a', rfl⟩ := Int.eq_ofNat_of_zero_le h0
  obtain ⟨c', rfl⟩ := Int.eq_ofNat_of_zero_le (Int.le_trans h0 hac)
  simp only [Int.toNat_natCast] at h
  refine setItem_slice (a := a') (c := c') e e2 hne hs (.int _ _) (.int _ _) (by omega) (by rw [List.size_toArray]; omega) (by rw [List.size_toArray, List.size_toArray]; omega) (h _ ?_)
  refine I.lset (its' := its.take a' ++ its2 ++ its.drop c') (t' := s.toks) hH e ?_ (Vals.append (Vals.append (r.take _) r2) (r.drop _)) ?_
  · exact splice_eq its its2 a' c'
  · rw [List.length_append, List.length_append, List.length_take, List.length_drop]
    omega
end
end L2
namespace Att
open PySem PySem.W PySem.Calls PyProof.Rows
theorem ints_of_wellAll {P : Params} {h : Heap} : ∀ (ns : List Int) (vs : List Value), WellAll P h vs (ns.map WData.int) → IntsAre vs ns := by
  intro ns
  induction ns with
  | nil =>
    intro vs w
    rw [List.map_nil] at w
    cases w
    exact .nil
  | cons n ns ih =>
    intro vs w
    rw [List.map_cons] at w
    cases w with
    | cons a b =>
      cases a
      exact .cons _ _ (ih _ b)
theorem script_of {l : OpenLaw} {n : Nat} (hn : l.most = some n) {P : Params} {h : Heap} {args : List WData} {vals : List Value}
    (hpre : l.row.toRowW.claim.pre args = true) (hwl : WellAll P h vals args) :
    ∃ a vs ns, vals = [Value.ref a] ∧ args = [WData.list (ns.map WData.int)] ∧ h.get? a = some { cls := .type "list", data := .seq vs.toArray } ∧ IntsAre vs ns ∧ ns.length ≤ n := by
  have hsh : WShape.hasAll [] args [.list .int] = true := (pre_splitW hpre).1
  have hc : l.pre.holds [] { args := args } = true := (pre_splitW hpre).2
  obtain ⟨d, r, rfl, h1, h2⟩ := hasAllW_cons hsh
  obtain rfl := hasAllW_nil h2
  obtain ⟨xs, rfl, h3⟩ := hasW_list h1
  obtain ⟨ns, rfl⟩ := items_int h3
  have hlen : ns.length ≤ n := by
    unfold OpenLaw.pre at hc
    have h4 : (WTm.not (.lt (.lit (.int (n : Int))) (.len (.arg 0)))).holds [] { args := [.list (ns.map .int)] } = true := by
      have h4 := (holds_andW hc).1
      rw [hn] at h4
      exact h4
    have h5 := condW_of h4 (w_not (w_lt w_lit (w_len_list (w_arg rfl))))
    rw [List.length_map] at h5
    refine Nat.le_of_not_lt fun q => ?_
    have q' : (n : Int) < ((ns.length : Nat) : Int) := by omega
    first
      | (rw [decide_eq_true q'] at h5; exact absurd h5 (by decide))
      | (simp at h5; omega)
  cases hwl with
  | cons w1 w2 =>
    cases w2
    cases w1 with
    | list ho hall => exact ⟨_, _, ns, rfl, rfl, ho, ints_of_wellAll ns _ hall, hlen⟩
theorem post_true (l : OpenLaw) (args : List WData) : l.row.toRowW.claim.post args (.bool true) args = true :=
  postW_of (r := l.row.toRowW) (X := (true == true))
    (show WShape.has [] (.bool true) .bool = true by first | rfl | decide | simp [WShape.has, WShape.arms, WShape.armsAll])
    (show (WTm.eq .res (.lit (.bool true))).value [] { args := args, res := some (.bool true), after := args } = some (.bool (true == true)) from w_eq_bool (w_res rfl) w_lit) rfl
theorem attach {l : OpenLaw} {n : Nat} {q : Program} {loose : List Str} {XP : (Str → Option Value) → Heap → Prop} {YP : World → Heap → Prop} {d : DefRec} {x : Str}
    (hn : l.most = some n) (hdf : d.params.defaults = [])
    (hbind : ∀ pm cd doc v : Value, bindArgs (docDef d.name d.params d.body d.scope pm cd doc) ⟨[v], []⟩ = pure [(x, v)])
    (hx : d.scope.names.lookup x = some .local ∨ d.scope.names.lookup x = some .cell)
    (hk : d.scope.kind = .function) (hco : d.scope.isCoroutine = false) (hgen : d.scope.isGenerator = false)
    (body : ∀ (w : World) (s₀ s₁ s : Shared) (mg mb : Str → Option Value) (fa : Addr) (o : Obj) (pm cd doc : Value) (a : Addr) (vs : List Value) (ns : List Int),
      Ground q loose [] XP w s₀ mg mb s₁.heap → YP w s₁.heap →
      s₁.heap.get? fa = some o → o.data = .func (docDef d.name d.params d.body d.scope pm cd doc) → s₁.heap.CodeRec cd d.name → mg d.name = some (.ref fa) →
      s₁.heap.get? a = some { cls := .type "list", data := .seq vs.toArray } → IntsAre vs ns → ns.length ≤ n →
      s.gens = #[] → s.os = s₁.os →
      Fr s₁.heap s₁.heap.objs.size s.heap (bindL (envOfC d.name d.scope s₁.heap.objs.size fa cd).kindOf [(x, .ref a)] fun _ => none) →
      Cl s₁.heap.objs.size (cellsFrom (s₁.heap.objs.size + 1) d.scope.names []) s.heap (bindC (envOfC d.name d.scope s₁.heap.objs.size fa cd).kindOf [(x, .ref a)] fun _ => none) →
      wpAny (model l.prog w) (callerA.deeper (envOfC d.name d.scope s₁.heap.objs.size fa cd)) (execs d.body (envOfC d.name d.scope s₁.heap.objs.size fa cd))
        (fun f s' => f = .ret (.bool true) ∧ OldK s₁.heap s'.heap ∧ s'.os = s₁.os ∧ AllBare s'.gens) (fun _ _ => False) s) :
    WalkO q loose XP YP l.row.toRowW d [] (fun f vs => PySem.call f vs) := by
  intro w s₀ s₁ mg mb G Y fa o pm cd doc dV kV ho hd hcd hD hmg hg args vals as hpre hlay hrd hwl hlo
  obtain rfl : dV = .none := Dflts.none hD hdf
  obtain rfl : kV = .none := Dflts.noKw hD
  obtain ⟨a, vs, ns, rfl, rfl, hobj, hints, hlen⟩ := script_of hn hpre hwl
  refine enter_call ?_
  refine call_cells_ret (o := o) (by rw [depth_caller]; decide) ho (fd_plain hd) G.T.nolimit hcd (hbind pm cd doc (.ref a)) (fun y hy => ?_) (fun h₁ tk F X => ?_) hco hgen hk
  · obtain rfl : y = (x, Value.ref a) := List.mem_singleton.mp hy
    rcases hx with e | e
    · exact .inl e
    · exact .inr ⟨e, cellsFrom_some _ _ _ (.inl e)⟩
  · refine wpAny_mono (body w s₀ s₁ { s₁ with heap := h₁, toks := tk } mg mb fa o pm cd doc a vs ns G Y ho (fd_plain hd) hcd hmg hobj hints hlen hg rfl F X) (fun f s' hq => ?_) (fun _ _ hq => hq)
    obtain ⟨rfl, h2, h3, h4⟩ := hq
    exact ⟨.inl ⟨.bool true, .bool true, [], rfl, fun _ => rfl, .bool true, post_true l _, fun _ => ⟨List.Pairwise.nil, fun _ hm => (nomatch hm)⟩⟩, h2, h3, h4⟩
theorem attach_call {l : OpenLaw} {n : Nat} {q : Program} {loose : List Str} {XP : (Str → Option Value) → Heap → Prop} {YP : World → Heap → Prop} {d : DefRec}
    (hn : l.most = some n) (hdf : d.params.defaults = [])
    (call : ∀ (w : World) (s₀ s₁ : Shared) (mg mb : Str → Option Value) (fa : Addr) (o : Obj) (pm cd doc : Value) (a : Addr) (vs : List Value) (ns : List Int),
      Ground q loose [] XP w s₀ mg mb s₁.heap → YP w s₁.heap →
      s₁.heap.get? fa = some o → o.data = .func (docDef d.name d.params d.body d.scope pm cd doc) → s₁.heap.CodeRec cd d.name → mg d.name = some (.ref fa) →
      s₁.heap.get? a = some { cls := .type "list", data := .seq vs.toArray } → IntsAre vs ns → ns.length ≤ n → s₁.gens = #[] →
      codeAny (model l.prog w) callerA (.call (.ref fa) ⟨[.ref a], []⟩) (fun r s' => r = .ok (.ret (.bool true)) ∧ OldK s₁.heap s'.heap ∧ s'.os = s₁.os ∧ AllBare s'.gens) s₁) :
    WalkO q loose XP YP l.row.toRowW d [] (fun f vs => PySem.call f vs) := by
  intro w s₀ s₁ mg mb G Y fa o pm cd doc dV kV ho hd hcd hD hmg hg args vals as hpre hlay hrd hwl hlo
  obtain rfl : dV = .none := Dflts.none hD hdf
  obtain rfl : kV = .none := Dflts.noKw hD
  obtain ⟨a, vs, ns, rfl, rfl, hobj, hints, hlen⟩ := script_of hn hpre hwl
  refine enter_call (codeAny_mono (call w s₀ s₁ mg mb fa o pm cd doc a vs ns G Y ho (fd_plain hd) hcd hmg hobj hints hlen hg) fun r s' hq => ?_)
  obtain ⟨rfl, h2, h3, h4⟩ := hq
  exact ⟨.inl ⟨.bool true, .bool true, [], rfl, fun _ => rfl, .bool true, post_true l _, fun _ => ⟨List.Pairwise.nil, fun _ hm => (nomatch hm)⟩⟩, h2, h3, h4⟩
theorem attachN {l : OpenLaw} {n : Nat} {q : Program} {loose : List Str} {XP : (Str → Option Value) → Heap → Prop} {YP : World → Heap → Prop} {d : DefRec} {x : Str}
    (hn : l.most = some n) (hdf : d.params.defaults = [])
    (hbind : ∀ pm cd doc v : Value, bindArgs (docDef d.name d.params d.body d.scope pm cd doc) ⟨[v], []⟩ = pure [(x, v)])
    (hx : d.scope.names.lookup x = some .local ∨ d.scope.names.lookup x = some .cell)
    (hk : d.scope.kind = .function) (hco : d.scope.isCoroutine = false) (hgen : d.scope.isGenerator = false)
    (body : ∀ (w : World) (s₀ s₁ s : Shared) (mg mb : Str → Option Value) (fa : Addr) (o : Obj) (pm cd doc : Value) (a : Addr) (vs : List Value) (ns : List Int),
      Ground q loose [] XP w s₀ mg mb s₁.heap → YP w s₁.heap →
      s₁.heap.get? fa = some o → o.data = .func (docDef d.name d.params d.body d.scope pm cd doc) → s₁.heap.CodeRec cd d.name → mg d.name = some (.ref fa) →
      s₁.heap.get? a = some { cls := .type "list", data := .seq vs.toArray } → IntsAre vs ns → ns.length ≤ n →
      s.gens = #[] → s.os = s₁.os →
      Fr s₁.heap s₁.heap.objs.size s.heap (bindL (envOfC d.name d.scope s₁.heap.objs.size fa cd).kindOf [(x, .ref a)] fun _ => none) →
      Cl s₁.heap.objs.size (cellsFrom (s₁.heap.objs.size + 1) d.scope.names []) s.heap (bindC (envOfC d.name d.scope s₁.heap.objs.size fa cd).kindOf [(x, .ref a)] fun _ => none) →
      wpAny (model l.prog w) (callerA.deeper (envOfC d.name d.scope s₁.heap.objs.size fa cd)) (execs d.body (envOfC d.name d.scope s₁.heap.objs.size fa cd))
        (fun f s' => f = .ret (.bool true) ∧ (∀ b o, s₁.heap.get? b = some o → s'.heap.get? b = some o) ∧ s'.os = s₁.os ∧ s'.gens = #[]) (fun _ _ => False) s) :
    WalkN q loose XP YP l.row.toRowW d [] (fun f vs => PySem.call f vs) := by
  intro w s₀ s₁ mg mb G Y fa o pm cd doc dV kV ho hd hcd hD hmg hg args vals as hpre hlay hrd hwl hlo
  obtain rfl : dV = .none := Dflts.none hD hdf
  obtain rfl : kV = .none := Dflts.noKw hD
  obtain ⟨a, vs, ns, rfl, rfl, hobj, hints, hlen⟩ := script_of hn hpre hwl
  refine enter_callW ?_
  refine call_cells_ret (o := o) (by rw [depth_caller]; decide) ho (fd_plain hd) G.T.nolimit hcd (hbind pm cd doc (.ref a)) (fun y hy => ?_) (fun h₁ tk F X => ?_) hco hgen hk
  · obtain rfl : y = (x, Value.ref a) := List.mem_singleton.mp hy
    rcases hx with e | e
    · exact .inl e
    · exact .inr ⟨e, cellsFrom_some _ _ _ (.inl e)⟩
  · refine wpAny_mono (body w s₀ s₁ { s₁ with heap := h₁, toks := tk } mg mb fa o pm cd doc a vs ns G Y ho (fd_plain hd) hcd hmg hobj hints hlen hg rfl F X) (fun f s' hq => ?_) (fun _ _ hq => hq)
    obtain ⟨rfl, h2, h3, h4⟩ := hq
    exact ⟨.inl ⟨.bool true, .bool true, [], rfl, fun _ => rfl, .bool true, post_true l _, fun _ => ⟨List.Pairwise.nil, fun _ hm => (nomatch hm)⟩⟩, h2, h3, h4⟩
section
variable {prog : Program} {w : World} {A : Around} {E : Value → Shared → Prop} {s : Shared} {K : Frag}
theorem call_fn {R : Result → Shared → Prop} {name qual : Str} {params : Arguments} {body : List Stmt} {scope : Scope} {dV kV doc pm cdv ct oc : Value} {an od : Option Addr} {osl : Array (Option Value)} {f : Addr} {args : Args} {binds : List (Str × Value)}
    (X : K.In s.heap) (hlim : s.heap.NoLimit) (ho : K.lookup f = some ⟨oc, od, .func (fnOf name qual params body scope dV kV doc pm an cdv ct), osl⟩) (hcd : codeIn K cdv qual = true) (hroom : A.depth < recursionLimit)
    (hbind : BindsTo s (fnOf name qual params body scope dV kV doc pm an cdv ct) args binds)
    (hkind : (binds.all fun y => scope.names.lookup y.1 == some .local || scope.names.lookup y.1 == some .cell) = true)
    (h : ∀ s₁, InCallC s s.heap.objs.size (bindL (envOfC qual scope s.heap.objs.size f cdv).kindOf binds fun _ => none) (cellsFrom (s.heap.objs.size + 1) scope.names [])
        (bindC (envOfC qual scope s.heap.objs.size f cdv).kindOf binds fun _ => none) s₁ →
      wpAny (model prog w) (A.deeper (envOfC qual scope s.heap.objs.size f cdv)) (execs body (envOfC qual scope s.heap.objs.size f cdv))
        (fun fl s' => R (.ok (.ret (match fl with | .ret v => v | _ => .none))) s')
        (fun e s' => wpAny (model prog w) (A.deeper (envOfC qual scope s.heap.objs.size f cdv)) (leaving (envOfC qual scope s.heap.objs.size f cdv) e) (fun _ s'' => R (.error e) s'') (fun e' s'' => R (.error e') s'') s') s₁)
    (hco : scope.isCoroutine = false) (hgen : scope.isGenerator = false) (hk : scope.kind = .function) : codeAny (model prog w) A (.call (.ref f) args) R s := by
  refine codeAny_call_function hroom (X _ _ ho) rfl hco hgen rfl (codeRec_of X hcd) (hbind _ _ _ _ ?_)
  refine wpAny_newFunctionEnv_cells hk (kindsX hkind _) fun env he s₁ x => ?_
  subst he
  exact ⟨hlim.keeps x.toInCall.keep, codeAny_func (h s₁ x)⟩
theorem make_obj {R : Result → Shared → Prop} {C fI : Addr} {rest : List Value} {kw : List (Str × Value)}
    (X : K.In s.heap) (hm : makesIn K C = true) (hi : findIn K (.ref C) "__init__" = some (some (.ref fI))) (hf : isFn K (.ref fI) = true)
    (h : codeAny (model prog w) (A.under (.builtin "type.__call__" ⟨.ref C :: rest, kw⟩)) (.call (.ref fI) ⟨.ref (s.heap.objs.size + 1) :: rest, kw⟩) (InitBack (s.heap.objs.size + 1) R)
      { s with heap := (s.heap.push emptyDict).push (instObj C s.heap.objs.size) }) : codeAny (model prog w) A (.call (.ref C) ⟨rest, kw⟩) R s := by
  obtain ⟨hh, g, d, t, os⟩ := s
  exact make_core (makes_of X hm) (looks_findIn X hi) (fun self => bind_fn X self (beq_iff_eq.mp hf)) (.inl rfl) h
theorem get_field {x C : Addr} {ox : Obj} {es : List DictEntry} {n : Nat} {name : Str} {expr : Bool} {v : Value} {Q : Value → Shared → Prop}
    (X : K.In s.heap) (I : PySem.W.InstAt s.heap x ox C (some (dictOf es n))) (hg : plainGet K C name = true) (hh : hasDictIn K C = true) (ha : findIn K (.ref C) name = some none)
    (hl : getL name es = some (some v)) (hv : handedIn v = true) (h : Q v { s with toks := s.toks + 1 }) : wpAny (model prog w) A (getAttr (.ref x) name expr) Q E s :=
  get_value X I (plainGet_of hg).1 (findObj_own hh ha rfl hl) hv h
theorem get_method {x C f : Addr} {ox : Obj} {es : List DictEntry} {n : Nat} {name : Str} {pl : Sem Bool} {Q : Value × List Value → Shared → Prop}
    (X : K.In s.heap) (I : PySem.W.InstAt s.heap x ox C (some (dictOf es n))) (hg : plainGet K C name = true) (hf : findIn K (.ref C) name = some (some (.ref f))) (ht : isFn K (.ref f) = true)
    (hl : getL name es = some none) (h : Q (.ref f, [.ref x]) s) : wpAny (model prog w) A (getMethod (.ref x) name pl) Q E s :=
  method_fn X I (plainGet_of hg).1 (plainGet_of hg).2 hf (beq_iff_eq.mp ht) (by show (lookIn name (dictOf es n)).map _ = _; rw [lookIn_dict, hl]; rfl) h
def noObjs (h : Heap) : Heap := { h with objs := #[] }
theorem noObjs_get (h : Heap) (b : Addr) : (noObjs h).get? b = none := by
  cases e : (noObjs h).get? b with
  | none => rfl
  | some o => exact absurd (Heap.lt_size e) (Nat.not_lt_zero _)
def ledger (h : Heap) (L d : Addr) : List (Addr × Obj) := (List.range h.objs.size).filterMap fun a => if a = L ∨ a = d then none else (h.get? a).map fun o => (a, o)
theorem mem_ledger {h : Heap} {L d a : Addr} {o : Obj} : (a, o) ∈ ledger h L d ↔ a ≠ L ∧ a ≠ d ∧ h.get? a = some o := by
  unfold ledger
  rw [List.mem_filterMap]
  constructor
  · rintro ⟨b, _, e⟩
    split at e
    · cases e
    · rename_i hb
      obtain ⟨o', ho, e'⟩ := Option.map_eq_some_iff.mp e
      cases e'
      exact ⟨fun q => hb (.inl q), fun q => hb (.inr q), ho⟩
  · rintro ⟨n1, n2, ho⟩
    refine ⟨a, List.mem_range.mpr (Heap.lt_size ho), ?_⟩
    rw [if_neg (show ¬ (a = L ∨ a = d) from fun q => q.elim n1 n2), ho] <;> rfl
theorem news_ledger {h : Heap} {L d : Addr} {od : Obj} (hne : d ≠ L) (ho : h.get? d = some od) : News (noObjs h) L h ([] ++ (d, od) :: ledger h L d) := by
  rintro ⟨a, o⟩ hp
  rcases List.mem_cons.mp hp with e | hp
  · cases e
    exact ⟨ho, hne, noObjs_get _ _⟩
  · obtain ⟨n1, n2, e⟩ := mem_ledger.mp hp
    exact ⟨e, n1, noObjs_get _ _⟩
theorem fr_all {h : Heap} {L : Addr} {m : Str → Option Value} (n : h.Ns L m) : Fr (noObjs h) L h m :=
  ⟨n, fun b o e => (by rw [noObjs_get] at e; cases e), Nat.zero_le _⟩
theorem upd_ledger {h : Heap} {L d : Addr} {o o' : Obj} : Upd d o o' ((d, o) :: ledger h L d) ((d, o') :: ledger h L d) :=
  .head fun ⟨_, _⟩ hp => (mem_ledger.mp hp).2.1
theorem set_field {x C dx L : Addr} {ox : Obj} {m : Str → Option Value} {es es' : List DictEntry} {n n' : Nat} {name : Str} {v : Value} {Q : Unit → Shared → Prop}
    (X : K.In s.heap) (I : PySem.W.InstAt s.heap x ox C (some (dictOf es n))) (hd : ox.dict = some dx) (hL : s.heap.Ns L m) (hne : dx ≠ L)
    (hs : findIn K (.ref C) "__setattr__" = some (some (.builtin "object.__setattr__"))) (hp : plainOver K C = true) (ht : takerIn K C name = some none) (hh : hasDictIn K C = true) (hl : (getL name es).isSome = true)
    (e : (putL name (PyData.keyHash w.params name) (.str name (s.toks + 1)) v es, putN name es n) = (es', n')) (hz : es'.length ≤ 1000)
    (h : ∀ h' : Heap, h'.Ns L m → h'.get? dx = some (dictOf es' n') → (∀ b o, b ≠ dx → b ≠ L → s.heap.get? b = some o → h'.get? b = some o) → Q () { s with heap := h', toks := s.toks + 2 }) :
    wpAny (model prog w) A (setAttr (.ref x) name v) Q E s := by
  obtain ⟨e1, e2⟩ := Prod.mk.inj e
  have hdx : s.heap.get? dx = some (dictOf es n) := by
    have := I.dict
    rw [hd] at this
    exact this
  refine set_plain X I hs (osa_dict (s := { s with toks := s.toks + 1 }) (h₀ := noObjs s.heap) (L := L) (m := m) (od := dictOf es n) (od' := dictOf es' n') (es := es') (n := n') (pre := []) (post := ledger s.heap L dx)
    (fr_all hL) (news_ledger hne hdx) X I hd hp ht hh hl (fun _ q => nomatch q) (fun ⟨_, _⟩ q => (mem_ledger.mp q).2.1) (by rw [putName_dict, e1, e2]) rfl hz fun h' F' N' => ?_)
  exact h h' F'.ns (N'.get (List.Mem.head _)) fun b o n1 n2 ho => N'.get (List.Mem.tail _ (mem_ledger.mpr ⟨n2, n1, ho⟩))
end
end Att
namespace L2
open PySem PySem.Spec PyProof.Rows
theorem vals_ints : ∀ {vs : List Value} {ns : List Int}, IntsAre vs ns → Vals (ns.map V.int) vs
  | _, _, .nil => .nil
  | _, _, .cons n t h => .cons ⟨t, rfl⟩ (vals_ints h)
def Only (H : Hp) : Prop := ∀ b, H b = none ∨ ∃ o xs, H b = some (.frz o (.lst xs))
theorem law_call {P : Program} {w : World} {K : PySem.W.Frag} {mg mb : Str → Option Value} {CX : CXT} {k : Nat} {fa a : Addr} {fd : FuncData} {x : Str} {sp : Sp} {s₁ : Shared} {vs : List Value} {ns : List Int}
    (KX : K.In s₁.heap) (hns : s₁.heap.Ns mainGlobals mg) (hb : s₁.heap.Ns builtinsNs mb) (hbb : ∀ x : Str, x ≠ "__name__" → mb x = bootBuiltins x) (hlim : s₁.heap.NoLimit) (hg : s₁.gens = #[])
    (ha : s₁.heap.get? a = some { cls := .type "list", data := .seq vs.toArray }) (hi : IntsAre vs ns) (hl : ns.length ≤ sizeLine) (hr : Room k callerA)
    (F : ∀ base : Heap, K.In base → base.Ns mainGlobals mg → FnOk P w K mg base CX k fa fd [x] sp) (hbind : ∀ (s : Shared) (u : Value), BindsTo s fd ⟨[u], []⟩ [(x, u)])
    (hsp : ∀ H : Hp, Only H → SqL K H a (ns.map V.int) → sp [.ref a] H (fun v _ => v = .bl true) fun _ _ _ => False)
    (hCX : ∀ H e s', CX [] H s₁ (fun _ _ _ => False) e s' → False) :
    codeAny (model P w) callerA (.call (.ref fa) ⟨[.ref a], []⟩) (fun r s' => r = .ok (.ret (.bool true)) ∧ OldK s₁.heap s'.heap ∧ s'.os = s₁.os ∧ AllBare s'.gens) s₁ := by
  have rv := vals_ints hi
  have lenV := hi.length
  -- from an abstract heap in which nothing but the script may be tracked
  have core : ∀ H : Hp, Only H → SqL K H a (ns.map V.int) → HOk P w H s₁.heap → (∀ b, H b ≠ none → b = a) → (H a ≠ none → K.lookup a = none) →
      codeAny (model P w) callerA (.call (.ref fa) ⟨[.ref a], []⟩) (fun r s' => r = .ok (.ret (.bool true)) ∧ OldK s₁.heap s'.heap ∧ s'.os = s₁.os ∧ AllBare s'.gens) s₁ := by
    intro H hO hS hok hA hK
    have base_of : ∀ {b : Addr} {o : Obj}, s₁.heap.get? b = some o → H b = none → (hidT s₁.heap H).get? b = some o := fun e n => hidT_get e n
    have noA : ∀ {b : Addr} {o : Obj} {es : Array DictEntry} {ep : Nat}, s₁.heap.get? b = some o → o.data = .dict es ep → H b = none := fun {b o es ep} e d => by
      cases q : H b with
      | none => rfl
      | some u =>
        have e' : b = a := hA b (by rw [q]; simp)
        subst e'
        rw [ha] at e; cases e
        have d' : Data.seq vs.toArray _ = Data.dict es ep := d
        cases d'
    have nsK : ∀ {b : Addr} {m : Str → Option Value}, s₁.heap.Ns b m → (hidT s₁.heap H).Ns b m := fun {b m} ⟨o, es, ep, e, d, r⟩ => ⟨o, es, ep, base_of e (noA e d), d, r⟩
    have hKb : K.In (hidT s₁.heap H) := fun b o e => base_of (KX b o e) (by
      cases q : H b with
      | none => rfl
      | some u =>
        have e' : b = a := hA b (by rw [q]; simp)
        subst e'
        rw [hK (by rw [q]; simp)] at e; cases e)
    have hM : Mod K mg (hidT s₁.heap H) := ⟨hKb, nsK hns, ⟨mb, nsK hb, hbb⟩, let ⟨mc, h1, h2⟩ := hlim; ⟨mc, nsK h1, h2⟩⟩
    have e0 : Env0 P w K mg (hidT s₁.heap H) callerA [] s₁ H := ⟨rfl, hM, fun b o e => of_hidT e, Nat.le_of_eq (hidT_size _ _), trivial, fun b hb => absurd (show b ∈ ([] : List Addr) from hb) (by simp), hok, .of_eq hg⟩
    refine codeAny_mono ((F _ hKb (nsK hns)).run callerA [] s₁ H ⟨[.ref a], []⟩ [.ref a] [.ref a] _ _ hr e0 (hbind s₁ (.ref a)) (.cons rfl .nil) (hsp H hO hS)) fun r s' h => ?_
    cases r with
    | error e => exact (hCX H e s' h).elim
    | ok fl =>
      cases fl with
      | next => exact False.elim h
      | brk => exact False.elim h
      | cont => exact False.elim h
      | ret u =>
        obtain ⟨v, H', os, bare, un, hok', r', q⟩ := h
        have q' : v = .bl true := q
        subst q'
        obtain rfl : u = Value.bool true := r'
        refine ⟨rfl, OldK.of_keep fun b o e => ?_, os, bare⟩
        cases q : H b with
        | none => exact un.keep b o e q (by intro z; exact absurd (show b ∈ ([] : List Addr) from z) (by simp)) (by simp)
        | some u =>
          rcases hO b with z | ⟨ob, xs, z⟩
          · rw [q] at z; cases z
          · have z2 := un.frzs b ob _ z
            obtain ⟨e1, _⟩ := hok b _ z
            obtain ⟨e2, _⟩ := hok' b _ z2
            rw [e] at e1; cases e1
            exact e2
  cases hk : K.lookup a with
  | some o =>
    -- the script is one of the module's own objects
    have e := KX a o hk
    rw [ha] at e
    cases e
    refine core (fun _ => none) (fun _ => .inl rfl) (.inr ⟨_, vs.toArray, _, hk, rfl, rfl, rfl, by rw [List.size_toArray, lenV]; exact hl, by simpa using rv⟩) (fun b u z => by have z' : (none : Option HO) = some u := z; cases z') (fun b z => absurd rfl z) fun z => absurd rfl z
  | none =>
    refine core (fun b => if b = a then some (.frz { cls := .type "list", data := .seq vs.toArray } (.lst (ns.map V.int))) else none) (fun b => ?_) (.inl (.inr ⟨{ cls := .type "list", data := .seq vs.toArray }, if_pos rfl⟩)) (fun b u z => ?_) (fun b z => ?_) fun _ => hk
    · by_cases hb : b = a
      · exact .inr ⟨_, _, if_pos hb⟩
      · exact .inl (if_neg hb)
    · by_cases hb : b = a
      · have z' := (if_pos hb).symm.trans z
        cases z'
        subst hb
        exact ⟨ha, by rw [List.length_map]; exact hl, vs, _, rv, ha⟩
      · have z' := (if_neg hb).symm.trans z
        cases z'
    · by_cases hb : b = a
      · exact hb
      · exact absurd (if_neg hb) z
end L2
namespace L2
open PySem PySem.Spec PyProof.Rows
abbrev KOf {K : PySem.W.Frag} {h : Heap} (_ : K.In h) : PySem.W.Frag := K
theorem walk_of {l : PySem.W.OpenLaw} {n k : Nat} {q : Program} {loose : List Str} {XP : (Str → Option Value) → Heap → Prop} {YP : World → Heap → Prop} {d : DefRec} {K : Params → PySem.W.Frag} {CX : World → CXT} {sp : World → Sp} {x : Str}
    (hn : l.most = some n) (hn2 : n ≤ sizeLine) (hdf : d.params.defaults = []) (hr : Room k callerA)
    (hY : ∀ (w : World) (h : Heap), YP w h → (K w.params).In h)
    (F : ∀ (w : World) (mg : Str → Option Value) (fa : Addr) (h : Heap), (K w.params).In h → h.Ns mainGlobals mg → mg d.name = some (.ref fa) →
      ∃ fd : FuncData, (∀ (s : Shared) (u : Value), BindsTo s fd ⟨[u], []⟩ [(x, u)]) ∧
        ∀ base : Heap, (K w.params).In base → base.Ns mainGlobals mg → FnOk l.prog w (K w.params) mg base (CX w) k fa fd [x] (sp w))
    (hsp : ∀ (w : World) (H : Hp) (a : Addr) (ns : List Int), ns.length ≤ n → Only H → SqL (K w.params) H a (ns.map V.int) → sp w [.ref a] H (fun v _ => v = .bl true) fun _ _ _ => False)
    (hCX : ∀ (w : World) (H : Hp) (s : Shared) (e : Value) (s' : Shared), CX w [] H s (fun _ _ _ => False) e s' → False) :
    PySem.W.WalkO q loose XP YP l.row.toRowW d [] (fun f vs => PySem.call f vs) := by
  refine Att.attach_call hn hdf fun w s₀ s₁ mg mb fa o pm cd doc a vs ns G Y ho hd hcd hmg hobj hints hlen hg => ?_
  have KX := hY w _ Y
  obtain ⟨fd, hb, hF⟩ := F w mg fa _ KX G.T.g hmg
  exact law_call KX G.T.g G.T.b G.T.builtins G.T.nolimit hg hobj hints (Nat.le_trans hlen hn2) hr hF hb (fun H hO hS => hsp w H a ns hlen hO hS) fun H e s' => hCX w H s₁ e s'
theorem walk_ofK {l : PySem.W.OpenLaw} {n k : Nat} {q : Program} {loose : List Str} {XP : (Str → Option Value) → Heap → Prop} {YP : World → Heap → Prop} {d : DefRec} {K : Params → PySem.W.Frag} {CX : CXT} {sp : PySem.W.Frag → Sp} {x : Str}
    (hn : l.most = some n) (hn2 : n ≤ sizeLine) (hdf : d.params.defaults = []) (hr : Room k callerA)
    (hY : ∀ (w : World) (h : Heap), YP w h → (K w.params).In h)
    (F : ∀ (w : World) (mg : Str → Option Value) (fa : Addr) (h : Heap), (K w.params).In h → h.Ns mainGlobals mg → mg d.name = some (.ref fa) →
      ∃ fd : FuncData, (∀ (s : Shared) (u : Value), BindsTo s fd ⟨[u], []⟩ [(x, u)]) ∧
        ∀ base : Heap, (K w.params).In base → base.Ns mainGlobals mg → FnOk l.prog w (K w.params) mg base CX k fa fd [x] (sp (K w.params)))
    (hsp : ∀ (K : PySem.W.Frag) (H : Hp) (a : Addr) (ns : List Int), ns.length ≤ n → Only H → SqL K H a (ns.map V.int) → sp K [.ref a] H (fun v _ => v = .bl true) fun _ _ _ => False)
    (hCX : ∀ (H : Hp) (s : Shared) (e : Value) (s' : Shared), CX [] H s (fun _ _ _ => False) e s' → False) :
    PySem.W.WalkO q loose XP YP l.row.toRowW d [] (fun f vs => PySem.call f vs) :=
  walk_of (K := K) (CX := fun _ => CX) (sp := fun w => sp (K w.params)) hn hn2 hdf hr hY F (fun w H a ns h1 h2 h3 => hsp (K w.params) H a ns h1 h2 h3) fun _ H s e s' => hCX H s e s'
end L2
/- THE LAST THEOREM (shape; LID, My.* are yours):
   My.Adr: a structure of the addresses that your layer names (classes, functions); My.Txt K t: a structure (Prop) of the equations over K;
   My.txt_mk : {K} {implicit addresses ..} (e1 : nsIn K mainGlobals "law" = some (some (.ref f))) (e2 : K.lookup f = some ⟨oc, od, .func (fnOf "law" "law" params body scope dV kV doc pm an cdv ct), sl⟩) (e3 : codeIn K cdv "law" = true) .. : ∃ t, My.Txt K t
set_option maxRecDepth 100000 in
set_option maxHeartbeats 0 in
theorem PySem.Challenge.cw_LID_holds : PySem.Challenge.rw_LID.Holds := by
  w_on; o_law; k_head; (case hw => w_witness2)
  k_fill
  refine L2.walk_of (l := PySem.Challenge.rw_LID) (n := 63) (k := 40) (x := "script") (CX := fun w => ..) (sp := fun _ => My.sp_law) rfl (by decide) rfl ⟨rfl, by decide, by decide⟩ (fun w h Y => PySem.W.kIn_of Y) ?F ?S ?C
  case F =>
    intro w mg fa h KX G hmg
    have T : ∃ t, My.Txt (L2.KOf KX) t := by
      dsimp only [L2.KOf]                          -- K must stand as «<heap const> w.params» for k_is
      refine' My.txt_mk ?e1 ?e2 ?e3 ..
      (case e1 => PySem.W.k_is)                    -- in the order: a name -> its address -> its object -> its parts
      (case e2 => PySem.W.k_is)
      ..
    obtain ⟨t, T⟩ := T
    have e0 := hmg.symm.trans (PySem.W.mg_of KX G T.law)
    cases e0                                       -- fa is the law's own address
    exact ⟨_, fun s u => .of_eq rfl, fun base kb nb => My.law_fn T kb nb⟩     -- if «.of_eq rfl» comes too early: refine' ⟨_, ?b, fun base kb nb => My.law_fn T kb nb⟩; exact fun s u => .of_eq rfl
  case S => exact fun w H a ns hl hO hS => ..
  case C => exact ..
(the tactic k_is has no namespace: write k_is) -/
namespace L2
open PySem PySem.Spec PyProof.Rows
def inClass (s : Stmt) (j : Nat) : Stmt := match s with
  | .ClassDef _ _ _ body _ _ _ _ _ _ _ => body.getD j (.Pass ⟨0, 0, 0, 0⟩)
  | _ => .Pass ⟨0, 0, 0, 0⟩
def defArgs (s : Stmt) : Arguments := match s with
  | .FunctionDef _ a _ _ _ _ _ _ _ _ => a
  | _ => { posonlyargs := [], args := [], vararg := none, kwonlyargs := [], kw_defaults := [], kwarg := none, defaults := [] }
def defBody (s : Stmt) : List Stmt := match s with
  | .FunctionDef _ _ b _ _ _ _ _ _ _ => b
  | _ => []
def defScope (s : Stmt) : Scope := match s with
  | .FunctionDef _ _ _ _ _ _ sc _ _ _ => sc
  | _ => { kind := .function, names := [], isGenerator := false, isCoroutine := false }
abbrev CX0 : CXT := fun _ _ _ _ _ _ => False
abbrev E0 : XK := fun _ _ _ => False
theorem pass0 {X : Cx} : Passes CX0 X E0 := fun _ _ _ _ _ _ _ h => h.elim
structure Fun (K : PySem.W.Frag) (x qual : Str) (st : Stmt) (f : Addr) (fd : FuncData) : Prop where
  ex : ∃ (oc : Value) (od : Option Addr) (kV doc pm : Value) (an : Option Addr) (cdv ct : Value) (osl : Array (Option Value)),
    fd = PySem.W.fnOf x qual (defArgs st) (defBody st) (defScope st) .none kV doc pm an cdv ct ∧ K.lookup f = some ⟨oc, od, .func fd, osl⟩ ∧ PySem.W.codeIn K cdv qual = true
  kp : PySem.W.keepIn K (.ref f) = true
section
variable {P : Program} {w : World} {K : PySem.W.Frag} {mg : Str → Option Value} {base : Heap}
theorem Fun.ok {x qual : Str} {st : Stmt} {f : Addr} {fd : FuncData} {N ps : List Str} {k : Nat} {sp : Sp} (F : Fun K x qual st f fd) (S : FnScope N ps (defScope st)) (len : ∀ vs H Q E, sp vs H Q E → vs.length = ps.length)
    (hbody : ∀ (cdv : Value) (A : Around) (outer : List Env) (s : Shared) (H : Hp) (vs : List V) (Q : VK) (E : XK), Room k (A.deeper (envOfC qual (defScope st) s.heap.objs.size f cdv)) → sp vs H Q E →
      ∃ t, PSs (cxOf CX0 P w K mg base N qual (defScope st) f cdv A outer s H E).nox (defBody st) t ∧ t { nx := fun _ H' => Q .non H', rt := Q } (start N vs) H) : FnOk P w K mg base CX0 (k + 1) f fd ps sp := by
  obtain ⟨oc, od, kV, doc, pm, an, cdv, ct, osl, rfl, lk, hcd⟩ := F.ex
  refine fn_of lk hcd S len fun A outer s H vs Q E hr hsp => ?_
  obtain ⟨t, h, q⟩ := hbody cdv A outer s H vs Q E hr hsp
  exact ⟨t, h.nox, q⟩
theorem Fun.binds {x qual : Str} {st : Stmt} {f : Addr} {fd : FuncData} {ps : List Str} (F : Fun K x qual st f fd)
    (h : ∀ (kV doc pm : Value) (an : Option Addr) (cdv ct : Value) (us : List Value), us.length = ps.length → bindArgs (PySem.W.fnOf x qual (defArgs st) (defBody st) (defScope st) .none kV doc pm an cdv ct) ⟨us, []⟩ = pure (ps.zip us)) : Binds K fd ps [] := by
  obtain ⟨oc, od, kV, doc, pm, an, cdv, ct, osl, rfl, lk, hcd⟩ := F.ex
  exact .all (h kV doc pm an cdv ct)
theorem fun_mk {x qual : Str} {st : Stmt} {f : Addr} {oc : Value} {od an : Option Addr} {osl : Array (Option Value)} {kV doc pm cdv ct : Value} (l : K.lookup f = some ⟨oc, od, .func (PySem.W.fnOf x qual (defArgs st) (defBody st) (defScope st) .none kV doc pm an cdv ct), osl⟩)
    (c : PySem.W.codeIn K cdv qual = true) (k : PySem.W.keepIn K (.ref f) = true) : Fun K x qual st f (PySem.W.fnOf x qual (defArgs st) (defBody st) (defScope st) .none kV doc pm an cdv ct) := ⟨⟨oc, od, kV, doc, pm, an, cdv, ct, osl, rfl, l, c⟩, k⟩
end
theorem hu_of {A : Around} {k : Nat} (hr : Room k A) : A.units + 1 < cLine := Nat.lt_of_le_of_lt (Nat.add_le_add_left (by decide : 1 ≤ 64) _) hr.units
theorem small1000 {n : Nat} (h : n ≤ 1000) : n < sizeLine := Nat.lt_of_le_of_lt h (by decide)
section
variable {X : Cx}
theorem pv (i : Nat) {x : Str} {pos : Pos} (hN : X.N[i]? = some x := by rfl) (hv : Vis X.env.scope x := by first | exact Or.inl rfl | exact Or.inr (Or.inl rfl) | exact Or.inr (Or.inr rfl)) (hd : (x == ("__debug__" : Str)) = false := by decide)
    (hcd : (x == ("__classdict__" : Str)) = false := by decide) : PE X (.Name x pos) (tVar i) := pe_var hN hv hd hcd
end
theorem iteF {A B : Prop} (h : B) : if false = true then A else B := by
  rw [if_neg Bool.false_ne_true]
  exact h
theorem iteT {A B : Prop} (h : A) : if true = true then A else B := by
  rw [if_pos rfl]
  exact h
theorem ite2 {c A B : Prop} [Decidable c] (h1 : c → A) (h2 : ¬ c → B) : if c then A else B := by
  by_cases h : c
  · rw [if_pos h]
    exact h1 h
  · rw [if_neg h]
    exact h2 h
theorem iteNS {c A B : Prop} [Decidable c] (hc : c) (h : B) : if (!decide c) = true then A else B := by
  rw [decide_eq_true hc]
  exact iteF h
def Same (H H' : Hp) : Prop := ∀ b o, H b = some o → H' b = some o
theorem Same.refl (H : Hp) : Same H H := fun _ _ h => h
theorem Same.trans {H H1 H2 : Hp} (a : Same H H1) (b : Same H1 H2) : Same H H2 := fun c o h => b c o (a c o h)
theorem Same.free {H H' : Hp} (e : Same H H') {l : Addr} (h : H' l = Option.none) : H l = Option.none := by
  cases q : H l with
  | none => rfl
  | some o =>
    rw [e l o q] at h
    cases h
theorem Same.seq {K : PySem.W.Frag} {H H' : Hp} {a : Addr} {xs : List V} (e : Same H H') (h : SqL K H a xs) : SqL K H' a xs := by
  rcases h with (h | ⟨o, h⟩) | h
  · exact .inl (.inl (e _ _ h))
  · exact .inl (.inr ⟨o, e _ _ h⟩)
  · exact .inr h
end L2
set_option maxHeartbeats 4000000
namespace L2
open PySem PySem.Spec PyProof.Rows
structure Blk where
  C : Addr
  s : Shared
  H : Hp
  ex : List Addr
def clOf (env : Env) : List (Str × NameKind) → List (Str × Addr) → List (Str × Addr)
  | [], cs => cs
  | (n, k) :: r, cs => if (k == NameKind.free) = true then (match env.cells.lookup n with | some a => clOf env r ((n, a) :: cs) | none => clOf env r cs) else clOf env r cs
theorem clOf_mem {env : Env} : ∀ {ns : List (Str × NameKind)} {cs : List (Str × Addr)}, (∀ p ∈ cs, env.cells.lookup p.1 = some p.2) → ∀ p ∈ clOf env ns cs, env.cells.lookup p.1 = some p.2
  | [], _, h => h
  | (n, k) :: r, cs, h => by
    unfold clOf
    split
    · cases e : env.cells.lookup n with
      | some a =>
        refine clOf_mem (ns := r) fun p hp => ?_
        rcases List.mem_cons.mp hp with rfl | hp
        · exact e
        · exact h p hp
      | none => exact clOf_mem (ns := r) h
    · exact clOf_mem (ns := r) h
theorem lookup_some_of_mem {x : Str} {β : Type} : ∀ {l : List (Str × β)}, (∃ b, (x, b) ∈ l) → ∃ c, l.lookup x = some c
  | [], ⟨_, h⟩ => nomatch h
  | (y, c) :: r, ⟨b, h⟩ => by
    rw [List.lookup_cons]
    by_cases e : x = y
    · subst e; exact ⟨c, by simp⟩
    · have e' : (x == y) = false := beq_eq_false_iff_ne.mpr e
      rw [e']
      refine lookup_some_of_mem (l := r) ⟨b, ?_⟩
      rcases List.mem_cons.mp h with z | z
      · exact absurd (congrArg Prod.fst z) e
      · exact z
theorem clOf_has {env : Env} {x : Str} {a : Addr} (e : env.cells.lookup x = some a) : ∀ {ns : List (Str × NameKind)} {cs : List (Str × Addr)}, ((x, NameKind.free) ∈ ns ∨ ∃ b, (x, b) ∈ cs) → ∃ b, (x, b) ∈ clOf env ns cs
  | [], _, h => by
    rcases h with h | h
    · exact nomatch h
    · exact h
  | (n, k) :: r, cs, h => by
    unfold clOf
    by_cases hk : (k == NameKind.free) = true
    · rw [if_pos hk]
      by_cases en : x = n
      · subst en
        rw [e]
        exact clOf_has e (ns := r) (.inr ⟨a, List.mem_cons_self⟩)
      · have nx : (x, NameKind.free) ∈ r ∨ ∃ b, (x, b) ∈ cs := by
          rcases h with h | h
          · rcases List.mem_cons.mp h with z | z
            · exact absurd (congrArg Prod.fst z) en
            · exact .inl z
          · exact .inr h
        cases e2 : env.cells.lookup n with
        | some c => exact clOf_has e (ns := r) (nx.imp id fun ⟨b, hb⟩ => ⟨b, List.mem_cons_of_mem _ hb⟩)
        | none => exact clOf_has e (ns := r) nx
    · rw [if_neg hk]
      refine clOf_has e (ns := r) ?_
      rcases h with h | h
      · rcases List.mem_cons.mp h with z | z
        · injection z with z1 z2
          subst z2
          exact absurd rfl hk
        · exact .inl z
      · exact .inr h
theorem closureFor_eq {sc : Scope} {env : Env} (h : ∀ x ∈ sc.names, x.2 = .free → ∃ a, env.cells.lookup x.1 = some a) : closureFor sc env = pure (clOf env sc.names []) := by
  unfold closureFor
  have go : ∀ (ns : List (Str × NameKind)) (cs : List (Str × Addr)), (∀ x ∈ ns, x.2 = .free → ∃ a, env.cells.lookup x.1 = some a) →
      (forIn ns cs fun x r => if (x.2 == NameKind.free) = true then (do let a ← cellOf env x.1; pure (ForInStep.yield ((x.1, a) :: r))) else pure (ForInStep.yield r) : Sem (List (Str × Addr))) = pure (clOf env ns cs) := by
    intro ns
    induction ns with
    | nil => intro cs _; rfl
    | cons x r ih =>
      intro cs hx
      obtain ⟨n, k⟩ := x
      rw [List.forIn_cons]
      unfold clOf
      by_cases hk : (k == NameKind.free) = true
      · obtain ⟨a, ea⟩ := hx (n, k) List.mem_cons_self (by simpa using hk)
        have ec : cellOf env n = pure a := by unfold cellOf; rw [show env.cells.lookup n = some a from ea]
        rw [if_pos hk, if_pos hk]
        simp only [ec, show env.cells.lookup n = some a from ea, pure_bind]
        exact ih _ fun y hy => hx y (List.mem_cons_of_mem _ hy)
      · rw [if_neg hk, if_neg hk]
        simp only [pure_bind]
        exact ih _ fun y hy => hx y (List.mem_cons_of_mem _ hy)
  have e := go sc.names [] h
  show ((forIn sc.names ([] : List (Str × Addr)) (fun (x : Str × NameKind) r => if (x.2 == NameKind.free) = true then (do let a ← cellOf env x.1; pure (ForInStep.yield ((x.1, a) :: r))) else pure (ForInStep.yield r)) : Sem (List (Str × Addr))) >>= fun z => pure z) = _
  rw [e]
  rfl
def hideN (own N : List Str) : List Str := N.map fun x => if own.contains x then "." else x
def Cx.block (X : Cx) (own : List Str) (sc : Scope) (b : Blk) : Cx :=
  { X with N := own ++ hideN own X.N, s₀ := b.s, H₀ := b.H, env := compEnvC sc (clOf X.env sc.names []) b.C X.env, outer := X.stack, ex := b.ex, fn := fun _ => false, pn := [], xe := fun _ _ => False }
structure CompSc (X : Cx) (own : List Str) (sc : Scope) : Prop where
  kind : sc.kind = .function
  nocell : ∀ y ∈ sc.names, y.2 ≠ .cell
  loc : ∀ y ∈ sc.names, y.2 = .local → sc.names.lookup y.1 = some .local
  free : ∀ y ∈ sc.names, y.2 = .free → X.env.scope.names.lookup y.1 = some .cell
  apart : ∀ y ∈ sc.names, y.2 = .local → y.1 ∉ hideN own X.N
  dot : sc.names.lookup (".": Str) = none
theorem relabel_lookup {env : Env} {x : Str} : ∀ (ns : List (Str × NameKind)),
    (ns.map fun (n, k) => if (k == NameKind.free && env.scope.kind == .function && env.kindOf n == some .cell) then (n, NameKind.cell) else (n, k)).lookup x
      = (ns.lookup x).map fun k => if (k == NameKind.free && env.scope.kind == .function && env.kindOf x == some .cell) then NameKind.cell else k
  | [] => rfl
  | (n, k) :: r => by
    have ih := relabel_lookup (env := env) (x := x) r
    show List.lookup x ((if (k == NameKind.free && env.scope.kind == .function && env.kindOf n == some .cell) = true then (n, NameKind.cell) else (n, k)) :: _) = _
    by_cases e : x = n
    · subst e
      by_cases hc : (k == NameKind.free && env.scope.kind == .function && env.kindOf x == some .cell) = true
      · rw [if_pos hc]
        simp only [List.lookup_cons, beq_self_eq_true]
        rw [Option.map_some, if_pos hc]
      · rw [if_neg hc]
        simp only [List.lookup_cons, beq_self_eq_true]
        rw [Option.map_some, if_neg hc]
    · have e' : (x == n) = false := beq_eq_false_iff_ne.mpr e
      by_cases hc : (k == NameKind.free && env.scope.kind == .function && env.kindOf n == some .cell) = true
      · rw [if_pos hc]; simp only [List.lookup_cons, e']; exact ih
      · rw [if_neg hc]; simp only [List.lookup_cons, e']; exact ih
section
variable {X : Cx} {own : List Str} {sc : Scope} {pins : List (Addr × Obj)} {σ : St} {H : Hp} {s : Shared}
theorem CompSc.kinds (S : CompSc X own sc) (hk : X.env.scope.kind = .function) {cl : List (Str × Addr)} {C : Addr} {x : Str} {k : NameKind} (h : (compEnvC sc cl C X.env).kindOf x = some k) (h2 : k = .local ∨ k = .cell ∨ k = .free) :
    (k = .local ∧ sc.names.lookup x = some .local) ∨ (k = .cell ∧ sc.names.lookup x = some .free ∧ X.env.scope.names.lookup x = some .cell) := by
  have e : (compEnvC sc cl C X.env).kindOf x = (sc.names.lookup x).map fun k => if (k == NameKind.free && X.env.scope.kind == .function && X.env.kindOf x == some .cell) then NameKind.cell else k := relabel_lookup sc.names
  rw [e] at h
  cases q : sc.names.lookup x with
  | none => rw [q] at h; cases h
  | some j =>
    rw [q] at h
    have hm : (x, j) ∈ sc.names := PySem.mem_of_lookup q
    have h' : (if (j == NameKind.free && X.env.scope.kind == .function && X.env.kindOf x == some .cell) = true then NameKind.cell else j) = k := Option.some.inj h
    by_cases hj : j = .free
    · subst hj
      have hc := S.free _ hm rfl
      have hc' : X.env.kindOf x = some .cell := hc
      rw [if_pos (by rw [hk, hc']; rfl)] at h'
      exact .inr ⟨h'.symm, rfl, hc⟩
    · have hj' : (j == NameKind.free) = false := by simpa using hj
      rw [if_neg (by rw [hj']; simp)] at h'
      subst h'
      rcases h2 with z | z | z
      · subst z; exact .inl ⟨rfl, rfl⟩
      · exact absurd z (S.nocell _ hm)
      · exact absurd z hj
theorem CompSc.closed (S : CompSc X own sc) (ok : X.Ok) : closureFor sc X.env = pure (clOf X.env sc.names []) :=
  closureFor_eq fun x hx e => ok.has x.1 (.inl (S.free x hx e))
theorem CompSc.cell_of {x : Str} {c : Addr} (h : (clOf X.env sc.names []).lookup x = some c) : X.env.cells.lookup x = some c :=
  clOf_mem (fun p hp => by cases hp) (x, c) (PySem.mem_of_lookup h)
theorem CompSc.cell_has (S : CompSc X own sc) (ok : X.Ok) {x : Str} (h : sc.names.lookup x = some .free) : ∃ c, (clOf X.env sc.names []).lookup x = some c ∧ X.env.cells.lookup x = some c := by
  have hm : (x, NameKind.free) ∈ sc.names := PySem.mem_of_lookup h
  obtain ⟨a, ea⟩ := ok.has x (.inl (S.free _ hm rfl))
  obtain ⟨c, hc⟩ := lookup_some_of_mem (clOf_has ea (cs := []) (.inl hm))
  exact ⟨c, hc, CompSc.cell_of hc⟩
theorem Inv.block {h' : Heap} {t' : Nat} {ex : List Addr} (I : Inv X pins σ H s) (S : CompSc X own sc) (hex : ∀ b ∈ ex, FpOk X pins H b) (hob : ∀ b ∈ ex, b < s.heap.objs.size)
    (hns : h'.Ns s.heap.objs.size (fun _ => none)) (hk : ∀ b o, s.heap.get? b = some o → h'.get? b = some o) :
    Inv (X.block own sc ⟨s.heap.objs.size, s, H, ex⟩) (X.pn ++ pins) (List.replicate own.length none ++ σ) H { s with heap := h', toks := t' } := by
  have nst : ∀ b, b ≠ X.env.locals → b ∉ X.fs → b ∉ frs X.stack := fun b h1 h2 h3 => (List.mem_cons.mp (I.stkSub b h3)).elim h1 h2
  refine ⟨⟨I.ok.mod, S.kind, I.ok.glob, I.ok.blt, Nat.le_refl _, fun x y c h1 h2 => I.ok.inj x y c (CompSc.cell_of h1) (CompSc.cell_of h2), fun x hx => ?_, fun x c z _ => Bool.noConfusion z, I.ok.hd, I.ok.frames, .inl rfl,
    fun b hb => ⟨Nat.ne_of_lt (hob b hb), fun x c e => (hex b hb).2.2.2.2.1 x c (CompSc.cell_of e)⟩, I.bs, Nat.le_trans I.ok.bsz I.sz, fun b o e hb => ?_, fun b hb => nst b (hex b hb).2.1 (hex b hb).2.2.1, I.stack, I.stkFree⟩,
    rfl, I.bare, Un.kept hk, ⟨_, hns, fun i x v hN hv hvis => ?_⟩, fun x c e => ?_, I.hok.fresh (Nat.le_refl _), fun x c e => I.freeC x c (CompSc.cell_of e), fun p hp => ?_, I.hok.kept hk, ?_⟩
  · have hx' : (compEnvC sc (clOf X.env sc.names []) s.heap.objs.size X.env).kindOf x = some .cell ∨ (compEnvC sc (clOf X.env sc.names []) s.heap.objs.size X.env).kindOf x = some .free := hx
    have q : sc.names.lookup x = some .free := by
      rcases hx' with z | z
      · rcases S.kinds I.ok.kind z (.inr (.inl rfl)) with ⟨w, _⟩ | ⟨_, w, _⟩
        · exact nomatch w
        · exact w
      · rcases S.kinds I.ok.kind z (.inr (.inr rfl)) with ⟨w, _⟩ | ⟨w, _, _⟩
        · exact nomatch w
        · exact nomatch w
    obtain ⟨c, hc, _⟩ := S.cell_has I.ok q
    exact ⟨c, hc⟩
  · rcases (hex b hb).2.2.2.1 with z | z
    · exact I.ok.noex b o e z
    · exact absurd (Nat.lt_of_lt_of_le (Heap.lt_size e) (Nat.le_trans I.ok.bsz z)) (Nat.lt_irrefl _)
  · have hi : own.length ≤ i := by
      rcases Nat.lt_or_ge i own.length with z | z
      · rw [List.getElem?_append_left (by simpa using z), List.getElem?_replicate, if_pos z] at hv
        cases hv
      · exact z
    have hv' : σ[i - own.length]? = some (some v) := by
      rw [List.getElem?_append_right (by simpa using hi), List.length_replicate] at hv
      exact hv
    have hN0 : (hideN own X.N)[i - own.length]? = some x := by
      have z : (own ++ hideN own X.N)[i]? = some x := hN
      rw [List.getElem?_append_right hi] at z
      exact z
    have hvis' : ∃ k, (compEnvC sc (clOf X.env sc.names []) s.heap.objs.size X.env).kindOf x = some k ∧ (k = .local ∨ k = .cell ∨ k = .free) := by
      rcases hvis with z | z | z
      · exact ⟨_, z, .inl rfl⟩
      · exact ⟨_, z, .inr (.inl rfl)⟩
      · exact ⟨_, z, .inr (.inr rfl)⟩
    obtain ⟨k, hk1, hk2⟩ := hvis'
    rcases S.kinds I.ok.kind hk1 hk2 with ⟨_, w⟩ | ⟨e, w, wc⟩
    · exact absurd (List.mem_of_getElem? hN0) (S.apart _ (PySem.mem_of_lookup w) rfl)
    · have hN' : X.N[i - own.length]? = some x := by
        unfold hideN at hN0
        rw [List.getElem?_map] at hN0
        cases q : X.N[i - own.length]? with
        | none => rw [q] at hN0; cases hN0
        | some y =>
          rw [q] at hN0
          have hN1 : (if own.contains y = true then (".": Str) else y) = x := Option.some.inj hN0
          by_cases hy : own.contains y = true
          · rw [if_pos hy] at hN1
            rw [← hN1, S.dot] at w; cases w
          · rw [if_neg hy] at hN1; rw [hN1]
      obtain ⟨m, _, hl⟩ := I.loc
      obtain ⟨u, r, l⟩ := hl _ x v hN' hv' (.inr (.inl wc))
      refine ⟨u, r, .inr ⟨.inl (by rw [← e]; exact hk1), ?_⟩⟩
      obtain ⟨c, hc1, hc2⟩ := S.cell_has I.ok w
      rcases l with ⟨z, _⟩ | ⟨_, c', hc', ic⟩
      · have z' : X.env.scope.names.lookup x = some .local := z
        rw [wc] at z'; cases z'
      · rw [hc2] at hc'; cases hc'
        exact ⟨c, hc1, ic.keeps hk⟩
  · obtain ⟨v, q⟩ := I.cell x c (CompSc.cell_of e)
    exact ⟨v, q.keeps hk⟩
  · have hp' : p ∈ X.pn ++ pins := hp
    obtain ⟨e, n, ne, nf, d⟩ := I.pin p hp'
    exact ⟨hk _ _ e, n, Nat.ne_of_lt (Heap.lt_size e), nst _ ne nf, d⟩
  · show (List.replicate own.length none ++ σ).length = (own ++ hideN own X.N).length
    unfold hideN
    rw [List.length_append, List.length_append, List.length_replicate, List.length_map, I.len]
theorem Inv.unblock {σ' : St} {H' : Hp} {s' : Shared} {pins' : List (Addr × Obj)} {C : Addr} {ex : List Addr} (I : Inv X pins σ H s) (J : Inv (X.block own sc ⟨C, s, H, ex⟩) pins' σ' H' s') (hex : ∀ b ∈ ex, FpOk X pins H b) : Inv X pins σ H' s' :=
  I.call' (ch := ex) J.os J.base J.hok J.bare fun b hb => ⟨(hex b hb).2.2.2.1, (hex b hb).2.1, (hex b hb).2.2.2.2.1, (hex b hb).2.2.2.2.2⟩
theorem Inv.track {a : Addr} {o : HO} (I : Inv X pins σ H s) (hf : FpOk X pins H a) (new : ObjOk X.prog X.w (upd H a o) s.heap a o) : Inv X pins σ (upd H a o) s := by
  obtain ⟨f0, f1, f2, f3, f4, f5⟩ := hf
  have ne : ∀ b u, H b = some u → b ≠ a := fun b u e z => by rw [z, f0] at e; cases e
  have J := I.step (h' := s.heap) (H' := upd H a o) (g' := s.gens) (t' := s.toks) (d' := s.drawn) (ch := [a]) (fun b hb => by
      have e : b = a := by simpa using hb
      subst e
      exact ⟨f3, f1, f4, f5⟩) (fun b o _ _ _ e _ => e) (fun b o _ _ _ e _ => ⟨o.slots, e⟩) (fun b u hb _ n => by rw [upd_ne (by simpa using hb)]; exact n) (fun b u _ e => ⟨u, e⟩)
    (fun b xs e => by rw [upd_ne (ne b _ e)]; exact e) (fun b u v e => by rw [upd_ne (ne b _ e)]; exact e) (fun b ps e => ⟨#[], by rw [upd_ne (ne b _ e), e]; simp⟩) (fun m hm => hm) (fun b u e => ?_) I.bare
  · exact J
  · by_cases hb : b = a
    · subst hb; rw [upd_same] at e; cases e; exact new
    · rw [upd_ne hb] at e
      exact (I.hok b u e).stay (fun _ _ _ q => q) (fun c q => by rw [upd_ne (ne c _ q)]; exact q) fun c xs q => by rw [upd_ne (ne c _ q)]; exact q
end
def PF (X : Cx) (ifs : List Expr) (t : TT) : Prop :=
  ∀ (pins : List (Addr × Obj)) (s : Shared) (σ : St) (H : Hp) (Q : Bool → Hp → Prop), Inv X pins σ H s → t σ H Q →
    wpAny (model X.prog X.w) X.A (forIn ifs true fun c r => if r = true then do let ok ← isTrue c X.env (eval c X.env); pure (ForInStep.yield ok) else pure (ForInStep.yield r)) (TP X pins σ Q) X.xe s
def tYes : TT := fun _ H Q => Q true H
theorem tyes {σ : St} {H : Hp} {A B : Hp → Prop} (h : A H) : tYes σ H (fun c H3 => if c = true then A H3 else B H3) := by
  show if true = true then A H else B H
  rw [if_pos rfl]
  exact h
theorem gn_yes {i : Nat} {v : V} {σ : St} {H : Hp} {A B : St → Hp → Prop} (h : A (σ.set i (some v)) H) : gName i v σ H (fun σ2 H2 => tYes σ2 H2 fun c H3 => if c = true then A σ2 H3 else B σ2 H3) := tyes (σ := σ.set i (some v)) (A := A (σ.set i (some v))) (B := B (σ.set i (some v))) h
theorem pf_nil {X : Cx} : PF X [] tYes := fun _ _ _ H _ I h => wpAny_tests_nil ⟨H, I, h⟩
theorem pf_one {X : Cx} {c : Expr} {t : TT} (h : PT X c t) : PF X [c] t := fun pins s σ H Q I hw => wpAny_tests_one (h pins s σ H Q I hw)
theorem loop_comp {prog : Program} {w : World} {A : Around} {R : Result → Shared → Prop} {s : Shared} {elt target iter : Expr} {ifs : List Expr} {scope : Scope} {pos : Pos} {it acc : Value} {env : Env} (I : Nat → Shared → Prop)
    (turn : ∀ n s, I n s → wpAny (model prog w) A (pyNext it) (fun r s1 => match r with
      | none => R (.ok .next) s1
      | some v => wpAny (model prog w) A (letOwnedTupleGo target it v) (fun _ s1' => wpAny (model prog w) A (assign target env v) (fun _ s2 =>
          wpAny (model prog w) A (forIn ifs true fun c r => if r = true then do let ok ← isTrue c env (eval c env); pure (ForInStep.yield ok) else pure (ForInStep.yield r)) (fun ok s3 =>
            if ok = true then wpAny (model prog w) A (eval elt env) (fun x s4 =>
              wpAny (model prog w) A (call (.builtin "list.append") [acc, x]) (fun _ s5 => ∃ m, m < n ∧ I m s5) (fun _ _ => False) s4) (fun _ _ => False) s3
            else ∃ m, m < n ∧ I m s3) (fun _ _ => False) s2) (fun _ _ => False) s1') (fun _ _ => False) s1) (fun _ _ => False) s)
    (n : Nat) (h : I n s) : codeAny (model prog w) A (.compLoop (.ListComp elt [⟨target, iter, ifs, 0⟩] scope pos) 0 it acc env) R s := by
  refine codeAny_loop rfl I (fun n s hI => ?_) n h
  show wpAny _ A ((compTurn (.ListComp elt [⟨target, iter, ifs, 0⟩] scope pos) 0 it acc env).onRaise (fun x => do noteFrame x env; theTreesLotGoes x)) _ _ s
  refine wpAny_noted ?_
  rw [compTurn_list]
  refine wpAny_bind (wpAny_standAt (wpAny_bind (wpAny_mono (turn n s hI) (fun r s1 h1 => ?_) fun _ _ h' => False.elim h')))
  cases r with
  | none => exact wpAny_pure h1
  | some v =>
    refine wpAny_bind (wpAny_mono h1 (fun _ s1' h1' => ?_) fun _ _ h' => False.elim h')
    refine wpAny_bind (wpAny_mono h1' (fun _ s2 h2 => wpAny_bind (wpAny_mono h2 (fun ok s3 h3 => ?_) fun _ _ h' => False.elim h')) fun _ _ h' => False.elim h')
    cases ok with
    | false => exact wpAny_pure ⟨rfl, h3⟩
    | true =>
      exact wpAny_bind (wpAny_bind (wpAny_mono h3 (fun x s4 h4 => wpAny_bind (wpAny_mono h4 (fun _ s5 h5 => wpAny_pure (wpAny_pure ⟨rfl, h5⟩)) fun _ _ h' => False.elim h')) fun _ _ h' => False.elim h'))
def OwnG (k : Nat) (g : TG) : Prop := ∀ v (pre σ : St) H Q, pre.length = k → g v (pre ++ σ) H Q → g v (pre ++ σ) H (fun σ2 H2 => (∃ pre2 : St, pre2.length = k ∧ σ2 = pre2 ++ σ) ∧ Q σ2 H2)
def OwnGs (k : Nat) (g : TGs) : Prop := ∀ v (pre σ : St) H Q, pre.length = k → g v (pre ++ σ) H Q → g v (pre ++ σ) H (fun σ2 H2 => (∃ pre2 : St, pre2.length = k ∧ σ2 = pre2 ++ σ) ∧ Q σ2 H2)
theorem own_name {k i : Nat} (h : i < k) : OwnG k (gName i) := fun v pre σ H Q hp hq => by
  refine ⟨⟨pre.set i (some v), by rw [List.length_set]; exact hp, ?_⟩, hq⟩
  rw [List.set_append_left _ _ (by omega)]
theorem own_nil {k : Nat} : OwnGs k gNil := fun v pre σ H Q hp hq => ⟨hq.1, ⟨pre, hp, rfl⟩, hq.2⟩
theorem own_cons {k i : Nat} {u : TGs} (h : i < k) (h2 : OwnGs k u) : OwnGs k (gCons (gName i) u) := fun v pre σ H Q hp hq => by
  obtain ⟨x, r, e, hq⟩ := hq
  refine ⟨x, r, e, ?_⟩
  have hq' : u r ((pre ++ σ).set i (some x)) H Q := hq
  show u r ((pre ++ σ).set i (some x)) H _
  rw [List.set_append_left _ _ (by omega)] at hq' ⊢
  exact h2 r (pre.set i (some x)) σ H Q (by rw [List.length_set]; exact hp) hq'
theorem own_tup {K : PySem.W.Frag} {k n : Nat} {t : TGs} (h : OwnGs k t) : OwnG k (gTup K n t) := fun v pre σ H Q hp hq => by
  obtain ⟨a, xs, e, hs, hl, hq⟩ := hq
  exact ⟨a, xs, e, hs, hl, h xs pre σ H Q hp hq⟩
def CompW (J : It) (g : Blk → TG) (tt : Blk → TT) (te : Blk → TE) (k : Nat) (σ : St) (H1 : Hp) (Q : VK) : Prop :=
  ∃ W : Nat → Nat → List V → Hp → Prop, (∃ m, W 0 m [] H1) ∧ ∀ i m acc H, W i m acc H →
    (J.stop i H ∧ acc.length ≤ sizeLine ∧ ∀ p, H p = none → Q (.ref p) (upd H p (.lst acc))) ∨
    (J.go i H ∧ acc.length < sizeLine ∧ ∀ b x H', J.yld i H x H' → g b x (List.replicate k none ++ σ) H' fun σ2 H2 => tt b σ2 H2 fun c H3 =>
      if c = true then te b σ2 H3 fun v H4 => ∃ m', m' < m ∧ W (i + 1) m' (acc ++ [v]) H4 else ∃ m', m' < m ∧ W (i + 1) m' acc H3)
def tComp (k : Nat) (wi : TI) (g : Blk → TG) (tt : Blk → TT) (te : Blk → TE) : TE := fun σ H Q => wi σ H fun J H1 => CompW J g tt te k σ H1 Q
section
variable {X : Cx} {own : List Str} {sc : Scope} {pins : List (Addr × Obj)} {σ : St} {tg iter elt : Expr} {ifs : List Expr} {wi : TI} {g : Blk → TG} {tt : Blk → TT} {te : Blk → TE} {pos : Pos}
theorem comp_run {R : It → Hp → Prop} {Q : VK} {itv : Value} {s2 : Shared} {E : Value → Shared → Prop} {use : Option (Value → Sem Unit)} {QQ : Value → Shared → Prop} (hc : X.calm = true) (S : CompSc X own sc)
    (hg : ∀ b, PG (X.block own sc b) tg (g b)) (ho : ∀ b, OwnG own.length (g b)) (ht : ∀ b, PF (X.block own sc b) ifs (tt b)) (he : ∀ b, PE (X.block own sc b) elt (te b))
    (hR : ∀ J H1, R J H1 → CompW J g tt te own.length σ H1 Q)
    (h2 : PIE X pins σ tg R itv s2)
    (fin : ∀ (acc C : Addr) (H : Hp) (s' : Shared), Inv X pins σ H s' → Q (.ref acc) H → FpOk X pins H C → (∃ m, s'.heap.Ns C m) → C < s'.heap.objs.size → X.env.locals ≠ C → (∀ x c, X.env.cells.lookup x = some c → c ≠ C) → compPost (model X.prog X.w) X.A E use QQ (.ref acc) C (.ok .next) s') :
    wpAny (model X.prog X.w) X.A (newList []) (fun acc s3 => wpAny (model X.prog X.w) X.A (newFunctionEnv sc X.env.globals (clOf X.env sc.names []) [] X.env.qual none .none (some X.env)) (fun cenv s4 =>
      codeAny (model X.prog X.w) X.A (.compStart (.ListComp elt [⟨tg, iter, ifs, 0⟩] sc pos) 0 itv acc { cenv with scope := relabel sc X.env }) (compPost (model X.prog X.w) X.A E use QQ acc cenv.locals) s4) E s3) E s2 := by
  obtain ⟨it, fp, tn, J, H2, e, I2, T, st2, f2, hr⟩ := h2
  subst e
  obtain ⟨W, ⟨m0, w0⟩, turn⟩ := hR J H2 hr
  refine wpAny_newList ?_
  have kp : ∀ b o, s2.heap.get? b = some o → (s2.heap.push { cls := .type "list", data := .seq ([] : List Value).toArray }).get? b = some o := fun b o e => Heap.get?_push_of_some _ e
  have I3 : Inv X pins σ H2 { s2 with heap := s2.heap.push { cls := .type "list", data := .seq ([] : List Value).toArray } } := I2.kept (t' := s2.toks) kp
  have sz3 : (s2.heap.push { cls := .type "list", data := .seq ([] : List Value).toArray }).objs.size = s2.heap.objs.size + 1 := Heap.size_push ..
  have tn3 : tn 0 (s2.heap.push { cls := .type "list", data := .seq ([] : List Value).toArray }) := T.keep _ _ _ st2 fun b _ o e => kp b o e
  have accO : (s2.heap.push { cls := .type "list", data := .seq ([] : List Value).toArray }).get? s2.heap.objs.size = some { cls := .type "list", data := .seq ([] : List Value).toArray } := Heap.get?_push_size _ rfl
  generalize hs3 : ({ s2 with heap := s2.heap.push { cls := .type "list", data := .seq ([] : List Value).toArray } } : Shared) = s3 at I3
  have hh3 : s3.heap = s2.heap.push { cls := .type "list", data := .seq ([] : List Value).toArray } := by rw [← hs3]
  rw [← hh3] at sz3 tn3 accO
  have facc : FpOk X pins H2 s2.heap.objs.size := I2.fpOk (Nat.le_refl _) (I2.hok.fresh (Nat.le_refl _))
  have hex : ∀ b ∈ s2.heap.objs.size :: fp, FpOk X pins H2 b := fun b hb => by
    rcases List.mem_cons.mp hb with rfl | hb
    · exact facc
    · exact f2 b hb
  have hob : ∀ b ∈ s2.heap.objs.size :: fp, b < s3.heap.objs.size := fun b hb => by
    rcases List.mem_cons.mp hb with rfl | hb
    · rw [sz3]; exact Nat.lt_succ_self _
    · obtain ⟨o, e, _⟩ := T.obj _ _ st2 b hb
      rw [sz3]; exact Nat.lt_succ_of_lt (Heap.lt_size e)
  have accfp : s2.heap.objs.size ∉ fp := fun hb => by
    obtain ⟨o, e, _⟩ := T.obj _ _ st2 _ hb
    exact absurd (Heap.lt_size e) (Nat.lt_irrefl _)
  refine wpAny_newFunctionEnv S.nocell (by intro y hy; simp at hy) (fun h1 hns1 hsb1 => ?_) S.kind
  have hk1 : ∀ b o, s3.heap.get? b = some o → h1.get? b = some o := fun b o e => (hsb1.2 b (Nat.ne_of_lt (Heap.lt_size e))).trans (Heap.get?_push_of_some _ e)
  have I4 := I3.block (own := own) (t' := s3.toks + ([] : List (Str × Value)).length) S hex hob hns1 hk1
  generalize hB : X.block own sc ⟨s3.heap.objs.size, s3, H2, s2.heap.objs.size :: fp⟩ = B at I4
  have eB : B.env = compEnvC sc (clOf X.env sc.names []) s3.heap.objs.size X.env := by rw [← hB]; rfl
  have locFr : ∀ b ∈ s2.heap.objs.size :: fp, b ≠ B.env.locals ∧ b ∉ B.fs ∧ (b ∈ B.ex ∨ B.s₀.heap.objs.size ≤ b) ∧ (∀ x c, B.env.cells.lookup x = some c → c ≠ b) := fun b hb => by
    subst hB
    exact ⟨(I4.ok.exf b hb).1, I4.ok.exfs b hb, .inl hb, (I4.ok.exf b hb).2⟩
  have pne : ∀ b ∈ s2.heap.objs.size :: fp, ∀ p ∈ B.pn ++ (X.pn ++ pins), p.1 ≠ b := fun b hb p hp => by
    subst hB
    exact (hex b hb).2.2.2.2.2 p hp
  -- the loop
  have loop : ∀ s4 : Shared, s4 = { s3 with heap := h1, toks := s3.toks + ([] : List (Str × Value)).length } →
      codeAny (model X.prog X.w) X.A (.compLoop (.ListComp elt [⟨tg, iter, ifs, 0⟩] sc pos) 0 (.ref it) (.ref s2.heap.objs.size) (compEnvC sc (clOf X.env sc.names []) s3.heap.objs.size X.env))
        (compPost (model X.prog X.w) X.A E use QQ (.ref s2.heap.objs.size) s3.heap.objs.size) s4 := by
    rintro s4 rfl
    refine loop_comp (fun n s' => ∃ i vs its k H', Inv B (X.pn ++ pins) (List.replicate own.length none ++ σ) H' s' ∧ tn i s'.heap ∧ (∀ b ∈ s2.heap.objs.size :: fp, H' b = none) ∧
      s'.heap.get? s2.heap.objs.size = some { cls := .type "list", data := .seq (its : List Value).toArray k } ∧ Vals vs its ∧ W i n vs H') ?_ m0
      ⟨0, [], [], 0, H2, I4, T.keep _ _ _ tn3 fun b _ o e => hk1 b o e, fun b hb => (hex b hb).1, hk1 _ _ accO, .nil, w0⟩
    rintro n s5 ⟨i, vs, its, k, H5, I5, tn5, fr5, ao5, rv5, w5⟩
    have PB : B.prog = X.prog ∧ B.w = X.w ∧ B.K = X.K ∧ B.A = X.A ∧ B.calm = X.calm ∧ B.xe = (fun _ _ => False) := by subst hB; exact ⟨rfl, rfl, rfl, rfl, rfl, rfl⟩
    obtain ⟨p1, p2, p3, p4, p5, p6⟩ := PB
    have stat : ∀ {pp : List (Addr × Obj)} {H' : Hp}, (∀ b ∈ s2.heap.objs.size :: fp, H' b = none) → (∀ b ∈ fp, ∀ p ∈ pp, p.1 ≠ b) → ∀ b ∈ fp, FpOk B ((X.pn ++ pins) ++ pp) H' b := fun hn hp b hb =>
      ⟨hn b (List.mem_cons_of_mem _ hb), (locFr b (List.mem_cons_of_mem _ hb)).1, (locFr b (List.mem_cons_of_mem _ hb)).2.1, (locFr b (List.mem_cons_of_mem _ hb)).2.2.1, (locFr b (List.mem_cons_of_mem _ hb)).2.2.2, fun p hp' => by
        rw [← List.append_assoc] at hp'
        rcases List.mem_append.mp hp' with z | z
        · exact pne b (List.mem_cons_of_mem _ hb) p z
        · exact hp b hb p z⟩
    -- the growing list, pinned
    have I5' : Inv B ((X.pn ++ pins) ++ [(s2.heap.objs.size, { cls := .type "list", data := .seq its.toArray k })]) (List.replicate own.length none ++ σ) H5 s5 := I5.pins_of fun p hp => by
      rcases List.mem_append.mp hp with z | z
      · exact I5.pin p (List.mem_append_right _ z)
      · have e : p = (s2.heap.objs.size, { cls := .type "list", data := .seq its.toArray k }) := by simpa using z
        subst e
        exact ⟨ao5, fr5 _ List.mem_cons_self, (locFr _ List.mem_cons_self).1, (locFr _ List.mem_cons_self).2.1, fun v z => by cases z⟩
    have stat' : ∀ b ∈ fp, FpOk B ((X.pn ++ pins) ++ [(s2.heap.objs.size, ({ cls := .type "list", data := .seq its.toArray k } : Obj))]) H5 b := stat fr5 fun b hb p hp z => by
      have e : p = (s2.heap.objs.size, { cls := .type "list", data := .seq its.toArray k }) := by simpa using hp
      subst e
      exact accfp (by rw [show s2.heap.objs.size = b from z]; exact hb)
    rcases turn i n vs H5 w5 with ⟨stop, zl, qn⟩ | ⟨go, zl, step⟩
    · have D := T.done B p1 p2 p3 (p5.trans hc) i _ s5 _ H5 (fun _ _ => False) I5' stat' tn5 stop
      rw [p4] at D
      refine wpAny_mono D (fun r s6 ⟨hr6, I6⟩ => ?_) fun _ _ z => z
      subst hr6
      -- the end
      have ao6 := (I6.pin (s2.heap.objs.size, { cls := .type "list", data := .seq its.toArray k }) (List.mem_append_right _ (List.mem_append_right _ (by simp)))).1
      have I6x := I6
      rw [← hB] at I6x
      have K6 : Inv X pins σ H5 s6 := I3.unblock I6x hex
      have fa : FpOk X pins H5 s2.heap.objs.size := ⟨fr5 _ List.mem_cons_self, facc.2⟩
      have K7 : Inv X pins σ (upd H5 s2.heap.objs.size (.lst vs)) s6 := K6.track fa ⟨zl, its, k, rv5, ao6⟩
      obtain ⟨mC, nsC, _⟩ := I6.loc
      have nsC' : s6.heap.Ns s3.heap.objs.size mC := by rw [eB] at nsC; exact nsC
      have ltC : s3.heap.objs.size < s6.heap.objs.size := nsC'.lt
      have lX : X.env.locals < s3.heap.objs.size := I3.lt
      have cX : ∀ x c, X.env.cells.lookup x = some c → c ≠ s3.heap.objs.size := fun x c e => by
        obtain ⟨v, q⟩ := I3.cell x c e
        exact Nat.ne_of_lt q.lt
      have frC : upd H5 s2.heap.objs.size (.lst vs) s3.heap.objs.size = none := by
        rw [upd_ne (by rw [sz3]; exact Nat.succ_ne_self _)]
        have z := I6.free
        rw [eB] at z; exact z
      exact fin _ _ _ s6 K7 (qn _ (fr5 _ List.mem_cons_self)) ⟨frC, Ne.symm (Nat.ne_of_lt lX), I3.nofs (Nat.le_refl _), .inr I3.sz, cX, fun p hp => Nat.ne_of_lt (Heap.lt_size (I3.pin p hp).1)⟩ ⟨mC, nsC'⟩ ltC (Nat.ne_of_lt lX) cX
    · have D := T.item B p1 p2 p3 (p5.trans hc) i _ s5 _ H5 (fun _ _ => False) I5' stat' tn5 go
      rw [p4] at D
      refine wpAny_mono D (fun r s6 ⟨u, hr6, h6⟩ => ?_) fun _ _ z => z
      subst hr6
      refine wpAny_mono h6 (fun _ s7 ⟨x, H7, I7, r7, y7, tn7, fr7⟩ => ?_) fun _ _ z => z
      have fr7' : ∀ b ∈ s2.heap.objs.size :: fp, H7 b = none := fun b hb => by
        rcases List.mem_cons.mp hb with rfl | hb
        · exact (I7.pin (s2.heap.objs.size, { cls := .type "list", data := .seq its.toArray k }) (List.mem_append_right _ (List.mem_append_right _ (by simp)))).2.1
        · exact fr7 b hb
      -- the iterator's records, pinned too
      have I7' := I7.pinned (fun b hb => (stat fr7' (fun b hb p hp z => by
        have e : p = (s2.heap.objs.size, { cls := .type "list", data := .seq its.toArray k }) := by simpa using hp
        subst e
        exact accfp (by rw [show s2.heap.objs.size = b from z]; exact hb))) b hb) (T.obj _ _ tn7)
      have G := hg ⟨s3.heap.objs.size, s3, H2, s2.heap.objs.size :: fp⟩
      rw [hB] at G
      have gq := ho ⟨s3.heap.objs.size, s3, H2, s2.heap.objs.size :: fp⟩ x (List.replicate own.length none) σ H7 _ (by simp) (step ⟨s3.heap.objs.size, s3, H2, s2.heap.objs.size :: fp⟩ x H7 y7)
      have G' := G _ s7 _ H7 x u _ I7' r7 gq
      rw [p4, p1, p2, eB, p6] at G'
      refine wpAny_mono G' (fun _ s8 ⟨σ8, H8, I8, ⟨pre8, lp8, es8⟩, q8⟩ => ?_) fun _ _ z => z
      have Tt := ht ⟨s3.heap.objs.size, s3, H2, s2.heap.objs.size :: fp⟩
      rw [hB] at Tt
      have Tt' := Tt _ s8 σ8 H8 _ I8 q8
      rw [p4, p1, p2, eB, p6] at Tt'
      refine wpAny_mono Tt' (fun c s9 ⟨H9, I9, q9⟩ => ?_) fun _ _ z => z
      -- behind a turn: the pins are forgotten, the own names too
      have weak : ∀ {s' : Shared} {H' : Hp} {pp : List (Addr × Obj)}, Inv B pp σ8 H' s' → (∀ p ∈ X.pn ++ pins, p ∈ pp) → Inv B (X.pn ++ pins) (List.replicate own.length none ++ σ) H' s' := fun {s' H' pp} II hp => by
        have II2 : Inv B (X.pn ++ pins) σ8 H' s' := II.pins_of fun p hpp => II.pin p (List.mem_append_right _ (hp p hpp))
        refine II2.weak (by rw [es8, List.length_append, List.length_append, List.length_replicate, lp8]) fun j v hv => ?_
        have hj : own.length ≤ j := by
          rcases Nat.lt_or_ge j own.length with z | z
          · rw [List.getElem?_append_left (by simpa using z), List.getElem?_replicate, if_pos z] at hv
            cases hv
          · exact z
        rw [List.getElem?_append_right (by simpa using hj), List.length_replicate] at hv
        rw [es8, List.getElem?_append_right (by rw [lp8]; exact hj), lp8]
        exact hv
      have sub : ∀ p ∈ X.pn ++ pins, p ∈ (X.pn ++ pins ++ [(s2.heap.objs.size, ({ cls := .type "list", data := .seq its.toArray k } : Obj))]) ++ pinsAt fp s7.heap := fun p hp => List.mem_append_left _ (List.mem_append_left _ hp)
      have pinA : ∀ {s' : Shared} {H' : Hp}, Inv B ((X.pn ++ pins ++ [(s2.heap.objs.size, ({ cls := .type "list", data := .seq its.toArray k } : Obj))]) ++ pinsAt fp s7.heap) σ8 H' s' →
          s'.heap.get? s2.heap.objs.size = some { cls := .type "list", data := .seq its.toArray k } ∧ (∀ b ∈ s2.heap.objs.size :: fp, H' b = none) ∧ tn (i + 1) s'.heap := fun {s' H'} II => by
        have a := II.pin (s2.heap.objs.size, { cls := .type "list", data := .seq its.toArray k }) (List.mem_append_right _ (List.mem_append_left _ (List.mem_append_right _ (by simp))))
        have bb : ∀ b ∈ fp, ∀ o, s7.heap.get? b = some o → s'.heap.get? b = some o ∧ H' b = none := fun b hb o e =>
          have z := II.pin (b, o) (List.mem_append_right _ (List.mem_append_right _ (mem_pinsAt hb e)))
          ⟨z.1, z.2.1⟩
        refine ⟨a.1, fun b hb => ?_, T.keep _ _ _ tn7 fun b hb o e => (bb b hb o e).1⟩
        rcases List.mem_cons.mp hb with rfl | hb
        · exact a.2.1
        · obtain ⟨o, e, _⟩ := T.obj _ _ tn7 b hb
          exact (bb b hb o e).2
      cases c with
      | false =>
        rw [if_neg (by simp)] at q9 ⊢
        obtain ⟨m', hm, w9⟩ := q9
        obtain ⟨a9, f9, t9⟩ := pinA I9
        exact ⟨m', hm, i + 1, vs, its, k, H9, weak I9 sub, t9, f9, a9, rv5, w9⟩
      | true =>
        rw [if_pos rfl] at q9 ⊢
        have Te := he ⟨s3.heap.objs.size, s3, H2, s2.heap.objs.size :: fp⟩
        rw [hB] at Te
        have Te' := Te _ s9 σ8 H9 _ I9 q9
        rw [p4, p1, p2, eB, p6] at Te'
        refine wpAny_mono Te' (fun y s10 ⟨v, H10, I10, r10, m', hm, w10⟩ => ?_) fun _ _ z => z
        obtain ⟨a10, f10, t10⟩ := pinA I10
        have zl' : its.length < sizeLine := by
          have := rv5.length
          omega
        have q10 := PySem.IsL.update a10 (fun z => z.push y)
        rw [show its.toArray.push y = (its ++ [y]).toArray by simp] at q10
        refine call_meets F.slot_list_append ⟨_, a10, rfl⟩ F.entry_list_append (F.args_list_append_2 _ _) (PySem.list_append s2.heap.objs.size its.toArray k y (by rw [List.size_toArray]; omega)) ⟨a10, ?_⟩
        have I11 := weak I10 sub
        have fz := locFr _ (List.mem_cons_self (a := s2.heap.objs.size) (l := fp))
        have oth : ∀ b o, b ≠ s2.heap.objs.size → s10.heap.get? b = some o → (s10.heap.update s2.heap.objs.size (Obj.mapSeq fun z => z.push y)).get? b = some o := fun b o hb e => (Heap.get?_update_other s10.heap _ (Ne.symm hb)).trans e
        have I12 : Inv B (X.pn ++ pins) (List.replicate own.length none ++ σ) H10 { s10 with heap := s10.heap.update s2.heap.objs.size (Obj.mapSeq fun z => z.push y) } :=
          I11.turned (t' := s10.toks) oth (f10 _ List.mem_cons_self) fz.1 fz.2.2.1 fz.2.2.2 (pne _ List.mem_cons_self)
        exact ⟨m', hm, i + 1, vs ++ [v], its ++ [y], _, H10, I12, T.keep _ _ _ t10 fun b hb o e => oth b o (fun z => accfp (by rw [← z]; exact hb)) e, f10, q10, rv5.append (.cons r10 .nil), w10⟩
  exact codeAny_compStart_list (loop _ rfl) (T.self X.A 0 _ _ _ (T.keep _ _ _ tn3 fun b _ o e => hk1 b o e) (loop _ rfl))
theorem pe_comp (hc : X.calm = true) (S : CompSc X own sc) (hi : PI X tg iter wi) (hg : ∀ b, PG (X.block own sc b) tg (g b)) (ho : ∀ b, OwnG own.length (g b)) (ht : ∀ b, PF (X.block own sc b) ifs (tt b)) (he : ∀ b, PE (X.block own sc b) elt (te b))
    (hs : ∀ x, foldedSetIterable iter X.env x = pure x := by intro _; rfl) : PE X (.ListComp elt [⟨tg, iter, ifs, 0⟩] sc pos) (tComp own.length wi g tt te) := by
  intro pins s σ H Q I h
  rw [eval_ListComp]
  refine wpAny_comprehension_free (use := none) (g := ⟨tg, iter, ifs, 0⟩) (gs := []) rfl hs (S.closed I.ok) S.kind S.loc ?_
  refine thn (hi pins s σ H _ I h) fun v s1 h1 => thn h1 fun itv s2 h2 => ?_
  refine comp_run (Q := Q) hc S hg ho ht he (fun J H1 r => r) h2 fun acc C H' s' K q fC nsC ltC lC cC => ?_
  obtain ⟨m, nsC⟩ := nsC
  refine ⟨m, nsC, fun h' hsb => ⟨.ref acc, H', ?_, rfl, q⟩⟩
  exact K.turned (t' := s'.toks) (fun b o hb e => (hsb.2 b hb).trans e) fC.1 fC.2.1 fC.2.2.2.1 fC.2.2.2.2.1 fC.2.2.2.2.2
theorem ps_comp {i : Nat} {x : Str} {pos' spos : Pos} (hN : X.N.Nodup) (hxi : X.N[i]? = some x) (hx : Loc X.env.scope x) (hc : X.calm = true) (S : CompSc X own sc) (hi : PI X tg iter wi) (hg : ∀ b, PG (X.block own sc b) tg (g b)) (ho : ∀ b, OwnG own.length (g b))
    (ht : ∀ b, PF (X.block own sc b) ifs (tt b)) (he : ∀ b, PE (X.block own sc b) elt (te b)) (hs : ∀ x, foldedSetIterable iter X.env x = pure x := by intro _; rfl)
    (hsw : swapsWith (.ListComp elt [⟨tg, iter, ifs, 0⟩] sc pos) (some (.Name x pos')) spos.line X.env = pure true := by rfl) (hf : X.fn x = true ∨ X.env.scope.names.lookup x = some .local := by first | exact .inl rfl | exact .inr rfl | assumption) :
    PS X (.Assign [.Name x pos'] (.ListComp elt [⟨tg, iter, ifs, 0⟩] sc pos) spos) (tAsg (tComp own.length wi g tt te) (gName i)) := by
  intro pins s σ H D I h
  rw [exec_Assign_Name_used _ _ _ _ hsw]
  refine wpAny_bind (wpAny_standAt (wpAny_bind ?_))
  show wpAny _ X.A (do let _ ← comprehension (.ListComp elt [⟨tg, iter, ifs, 0⟩] sc pos) sc X.env _ (newList []) false (eval iter X.env) (some (assign (.Name x pos') X.env))) _ _ s
  refine wpAny_bind (wpAny_mono (wpAny_comprehension_free (use := some (assign (.Name x pos') X.env)) (g := ⟨tg, iter, ifs, 0⟩) (gs := []) (Q := fun _ s' => SP X pins D .next s') rfl hs (S.closed I.ok) S.kind S.loc ?_)
    (fun _ s' hq => wpAny_pure (wpAny_pure hq)) fun _ _ e => e)
  refine thn (hi pins s σ H _ I h) fun v s1 h1 => thn h1 fun itv s2 h2 => ?_
  refine comp_run (Q := fun y H1 => gName i y σ H1 D.nx) hc S hg ho ht he (fun J H1 r => r) h2 fun acc C H' s' K q fC nsC ltC lC cC => ?_
  obtain ⟨m, nsC⟩ := nsC
  refine wpAny_assign_Name (store_ok2 K hN hxi hx (v := .ref acc) (u := .ref acc) rfl (fun s'' K2 hsb => ?_) hf)
  obtain ⟨a, hsb, ha⟩ := hsb
  have nC : C ≠ a := by
    rcases ha with z | z
    · rw [z]; exact Ne.symm lC
    · exact Ne.symm (cC x a z)
  refine ⟨m, nsC.sameBut hsb nC, fun h' hsb' => ⟨_, H', ?_, q⟩⟩
  exact K2.turned (t' := s''.toks) (fun b o hb e => (hsb'.2 b hb).trans e) fC.1 fC.2.1 fC.2.2.2.1 fC.2.2.2.2.1 fC.2.2.2.2.2
end
end L2
namespace L2
open PySem PySem.Spec PyProof.Rows
section
variable {X : Cx}
theorem call_isinst : CallR X (.builtin "isinstance") (fun xs H Q => ∃ x n t b, xs = [x, .ty n] ∧ TyOf X.K H x t ∧ PySem.W.kitOne X.K t (.type n) = some b ∧ Q (.bl b) H) := by
  intro pins s σ H xs us Q I r h
  obtain ⟨x, n, t, b, rfl, ty, e, q⟩ := h
  obtain ⟨u, w', rfl, rx, ry⟩ := vals2 r
  obtain rfl : w' = Value.type n := ry
  exact isinst_ok I rx ty e fun tk => ⟨.bl b, H, I.tok tk, rfl, q⟩
def plainV : V → Bool
  | .flt _ => false
  | .byt _ => false
  | _ => true
theorem eqAt_same {A : Around} {s : Shared} {x : V} {u v : Value} (h : plainV x = true) (ru : RelV x u) (rv : RelV x v) : SeqAt.EqAt A s u v true := by
  cases x with
  | non => cases ru; cases rv; exact SeqAt.EqAt.same _
  | bl b => cases ru; cases rv; exact SeqAt.EqAt.same _
  | int i =>
    obtain ⟨t, rfl⟩ := ru
    obtain ⟨t', rfl⟩ := rv
    have e := SeqAt.EqAt.int_int (A := A) (s := s) i t i t'
    rw [beq_self_eq_true] at e
    exact e
  | str i =>
    obtain ⟨t, rfl⟩ := ru
    obtain ⟨t', rfl⟩ := rv
    have e := SeqAt.EqAt.str_str (A := A) (s := s) i t i t'
    rw [beq_self_eq_true] at e
    exact e
  | ref a => cases ru; cases rv; exact SeqAt.EqAt.same _
  | ty n => cases ru; cases rv; exact SeqAt.EqAt.same _
  | flt b => cases h
  | byt b => cases h
def SqE (K : PySem.W.Frag) (H : Hp) (R : V → V → Prop) (a b : Addr) : Prop :=
  ∃ xs ys, ((SqL K H a xs ∧ SqL K H b ys) ∨ (SqT K H a xs ∧ SqT K H b ys)) ∧ xs.length = ys.length ∧ ∀ (i : Nat) x y, xs[i]? = some x → ys[i]? = some y → R x y
def Eqv (K : PySem.W.Frag) (H : Hp) : Nat → V → V → Prop
  | 0, x, y => x = y ∧ plainV x = true
  | n + 1, x, y => (x = y ∧ plainV x = true) ∨ ∃ a b, x = .ref a ∧ y = .ref b ∧ SqE K H (Eqv K H n) a b
section
variable {pins : List (Addr × Obj)} {σ : St} {H : Hp} {s : Shared}
theorem items_eq {n : Nat} {R : V → V → Prop} {A : Around} {xs ys : List V} {its its2 : List Value} (r : Vals xs its) (r2 : Vals ys its2) (hR : ∀ (i : Nat) x y, xs[i]? = some x → ys[i]? = some y → R x y)
    (h : ∀ {x y : V} {u v : Value}, R x y → RelV x u → RelV y v → SeqAt.EqAt A s u v true) :
    ∀ j (h1 : j < its.toArray.size) (h2 : j < its2.toArray.size), SeqAt.EqAt A s its.toArray[j] its2.toArray[j] ((fun _ => true) j) := fun j h1 h2 => by
  have l1 := r.length
  have l2 := r2.length
  have k1 : j < xs.length := by simpa [l1] using h1
  have k2 : j < ys.length := by simpa [l2] using h2
  obtain ⟨u, eu, ru⟩ := r.get (i := j) (x := xs[j]) (by simp [k1])
  obtain ⟨v, ev, rv⟩ := r2.get (i := j) (x := ys[j]) (by simp [k2])
  have e1 : its.toArray[j] = u := by
    have : its[j]? = some its[j] := by simp
    rw [this] at eu; simpa using Option.some.inj eu
  have e2 : its2.toArray[j] = v := by
    have : its2[j]? = some its2[j] := by simp
    rw [this] at ev; simpa using Option.some.inj ev
  rw [e1, e2]
  exact h (hR j _ _ (by simp [k1]) (by simp [k2])) ru rv
theorem all_true (n : Nat) : (List.range n).all (fun _ => true) = true := by simp
theorem rc_eq {R : V → V → Prop} {A : Around} {a b : Addr} (I : Inv X pins σ H s) (hq : SqE X.K H R a b) (hu : A.units < cLine) (h : ∀ {x y : V} {u v : Value}, R x y → RelV x u → RelV y v → SeqAt.EqAt A.in1 s u v true) : SeqAt.RcAt A s (.ref a) (.ref b) true := by
  obtain ⟨xs, ys, hs, hl, hR⟩ := hq
  rcases hs with ⟨h1, h2⟩ | ⟨h1, h2⟩
  · obtain ⟨its, r, p, _⟩ := I.list h1
    obtain ⟨its2, r2, p2, _⟩ := I.list h2
    have e : its.toArray.size = its2.toArray.size := by have := r.length; have := r2.length; simp only [List.size_toArray]; omega
    have z := SeqAt.RcAt.lists (A := A) (e := fun _ => true) p.isList p2.isList e hu (items_eq (n := 0) r r2 hR h)
    rw [all_true] at z
    exact z
  · obtain ⟨its, r, p, _⟩ := I.tuple h1
    obtain ⟨its2, r2, p2, _⟩ := I.tuple h2
    have e : its.toArray.size = its2.toArray.size := by have := r.length; have := r2.length; simp only [List.size_toArray]; omega
    have z := SeqAt.RcAt.tuples (A := A) (e := fun _ => true) (show s.heap.IsTuple a its.toArray from p) (show s.heap.IsTuple b its2.toArray from p2) hu (items_eq (n := 0) r r2 hR h)
    rw [all_true, e, beq_self_eq_true] at z
    exact z
theorem rc_ne {R : V → V → Prop} {A : Around} {a b : Addr} (I : Inv X pins σ H s) (hq : SqE X.K H R a b) (hu : A.units < cLine) (h : ∀ {x y : V} {u v : Value}, R x y → RelV x u → RelV y v → SeqAt.EqAt A.in1 s u v true) : SeqAt.RcNeAt A s (.ref a) (.ref b) false := by
  obtain ⟨xs, ys, hs, hl, hR⟩ := hq
  rcases hs with ⟨h1, h2⟩ | ⟨h1, h2⟩
  · obtain ⟨its, r, p, _⟩ := I.list h1
    obtain ⟨its2, r2, p2, _⟩ := I.list h2
    have e : its.toArray.size = its2.toArray.size := by have := r.length; have := r2.length; simp only [List.size_toArray]; omega
    have z := SeqAt.RcNeAt.lists (A := A) (e := fun _ => true) p.isList p2.isList e hu (items_eq (n := 0) r r2 hR h)
    rw [all_true] at z
    exact z
  · obtain ⟨its, r, p, _⟩ := I.tuple h1
    obtain ⟨its2, r2, p2, _⟩ := I.tuple h2
    have e : its.toArray.size = its2.toArray.size := by have := r.length; have := r2.length; simp only [List.size_toArray]; omega
    have z := SeqAt.RcNeAt.tuples (A := A) (e := fun _ => true) (show s.heap.IsTuple a its.toArray from p) (show s.heap.IsTuple b its2.toArray from p2) hu (items_eq (n := 0) r r2 hR h)
    rw [all_true, e, beq_self_eq_true] at z
    exact z
theorem eqv_at (I : Inv X pins σ H s) : ∀ (n : Nat) {A : Around} {x y : V} {u v : Value}, Eqv X.K H n x y → RelV x u → RelV y v → A.units + n < cLine → SeqAt.EqAt A s u v true
  | 0, _, _, _, _, _, h, ru, rv, _ => by obtain ⟨rfl, hp⟩ := h; exact eqAt_same hp ru rv
  | n + 1, A, x, y, u, v, h, ru, rv, hu => by
    rcases h with ⟨rfl, hp⟩ | ⟨a, b, rfl, rfl, hq⟩
    · exact eqAt_same hp ru rv
    · cases ru; cases rv
      by_cases hab : a = b
      · subst hab; exact SeqAt.EqAt.same _
      · exact .of_refs hab (rc_eq I hq (by omega) fun {x y u v} hxy rx ry => eqv_at I n hxy rx ry (by show A.units + 1 + n < cLine; omega))
end
def rEqv (K : PySem.W.Frag) (k : Bool) : R2 := fun x y H Q => ∃ a b, x = .ref a ∧ y = .ref b ∧ SqE K H (Eqv K H 8) a b ∧ Q (.bl k) H
theorem op_eqv (hu : X.A.units + 16 < cLine) : OpR X (compareOp .Eq) (rEqv X.K true) := by
  intro pins s σ H x y v u Q I rx ry h
  obtain ⟨a, b, rfl, rfl, hq, q⟩ := h
  cases rx; cases ry
  exact rc_eq (A := X.A) I hq (by omega) (fun {x y u v} hxy rx ry => eqv_at I 8 hxy rx ry (by show X.A.units + 1 + 8 < cLine; omega)) X.prog X.w X.xe _ ⟨.bl true, H, I, rfl, q⟩
theorem op_nev (hu : X.A.units + 16 < cLine) : OpR X (compareOp .NotEq) (rEqv X.K false) := by
  intro pins s σ H x y v u Q I rx ry h
  obtain ⟨a, b, rfl, rfl, hq, q⟩ := h
  cases rx; cases ry
  exact rc_ne (A := X.A) I hq (by omega) (fun {x y u v} hxy rx ry => eqv_at I 8 hxy rx ry (by show X.A.units + 1 + 8 < cLine; omega)) X.prog X.w X.xe _ ⟨.bl false, H, I, rfl, q⟩
def Ite (K : PySem.W.Frag) (a : Addr) : It :=
  ⟨fun i H => ∃ xs x, SqL K H a xs ∧ xs[i]? = some x, fun i H x H' => ∃ T y, x = .ref T ∧ H T = none ∧ H' = upd H T (.tup [.int (i : Int), y]) ∧ ∀ xs, SqL K H a xs → xs[i]? = some y, fun i H => ∃ xs, SqL K H a xs ∧ xs.length ≤ i⟩
theorem turn_enum {P : Program} {w : World} {K : PySem.W.Frag} {es : List Expr} {k : Nat} {pos : Pos} (a e it : Addr) (hne : e ≠ it) :
    Turn P w K (.Tuple es k pos) (Ite K a) [e, it] e (fun i h => (∃ old, IsEnum h e it (i : Int) old) ∧ h.IsListIter it a i) where
  mem := by simp
  obj := fun i h st b hb => by
    obtain ⟨⟨old, he⟩, hit⟩ := st
    rcases List.mem_cons.mp hb with rfl | hb
    · exact ⟨_, he, fun v z => by cases z⟩
    · have e2 : b = it := by simpa using hb
      subst e2
      obtain ⟨o, e, c, d⟩ := hit
      exact ⟨o, e, fun v z => by rw [d] at z; cases z⟩
  keep := fun i h h' st kp => by
    obtain ⟨⟨old, he⟩, hit⟩ := st
    exact ⟨⟨old, kp e (by simp) _ he⟩, hit.at fun o q => kp it (by simp) o q⟩
  item := by
    intro X hP hw hK hc i pins s σ H E I hf st hg
    subst hP hw hK
    obtain ⟨⟨old, he⟩, hit⟩ := st
    obtain ⟨xs, x, hq, hx⟩ := hg
    obtain ⟨its, rv, p, hz⟩ := I.list hq
    obtain ⟨u, hu, ru⟩ := rv.get hx
    have fe := hf e (by simp)
    have fi := hf it (by simp)
    refine wpAny_pyNext_enum_item he hit p.isList (x := u) (by simpa using hu) hne fun h' ho hit' hT hsz hk => ?_
    have fT : FpOk X pins H s.heap.objs.size := I.fpOk (Nat.le_refl _) (I.hok.fresh (Nat.le_refl _))
    have helt : e < s.heap.objs.size := Heap.lt_size he
    have hilt : it < s.heap.objs.size := by obtain ⟨_, q, _⟩ := hit; exact Heap.lt_size q
    refine ⟨_, rfl, wpAny_letOwnedTupleGo_enum ho fun h2 he2 hs2 => ?_⟩
    have hk2 : ∀ b o, b ≠ e → b ≠ it → s.heap.get? b = some o → h2.get? b = some o := fun b o h1 h3 q => (hs2.2 b h1).trans (hk b o h1 h3 q)
    have nb : ∀ b u, H b = some u → b ≠ e ∧ b ≠ it := fun b u q => ⟨(fun z => by rw [z, fe.1] at q; cases q), (fun z => by rw [z, fi.1] at q; cases q)⟩
    have I1 : Inv X pins σ H { s with heap := h2, toks := s.toks + 1 } := by
      refine I.step (g' := s.gens) (d' := s.drawn) (ch := [e, it]) (fun b hb => ?_) (fun b o _ _ hc q _ => hk2 b o (fun z => hc (by simp [z])) (fun z => hc (by simp [z])) q) (fun b o _ _ hc q _ => ⟨o.slots, hk2 b o (fun z => hc (by simp [z])) (fun z => hc (by simp [z])) q⟩)
        (fun _ _ _ _ n => n) (fun b o hc q => ⟨o, hk2 b o (fun z => hc (by simp [z])) (fun z => hc (by simp [z])) q⟩) (fun _ _ q => q) (fun _ _ _ q => q) (fun b ps q => ⟨#[], by rw [q]; simp⟩) (fun m hm => ?_) (fun b u q => ?_) I.bare
      · rcases List.mem_cons.mp hb with rfl | hb
        · exact ⟨fe.2.2.2.1, fe.2.1, fe.2.2.2.2.1, fe.2.2.2.2.2⟩
        · have e2 : b = it := by simpa using hb
          subst e2
          exact ⟨fi.2.2.2.1, fi.2.1, fi.2.2.2.2.1, fi.2.2.2.2.2⟩
      · obtain ⟨o, es', ep, hoL, r⟩ := hm
        exact ⟨o, es', ep, hk2 _ o (Ne.symm fe.2.1) (Ne.symm fi.2.1) hoL, r⟩
      · refine (I.hok b u q).stay (fun c v hc r => ?_) (fun _ q => q) fun _ _ q => q
        rcases hc with z | z
        · rw [z] at r ⊢; exact hk2 b v (nb b u q).1 (nb b u q).2 r
        · exact hk2 c v (nb c _ z).1 (nb c _ z).2 r
    have hT2 : h2.get? s.heap.objs.size = some { cls := .type "tuple", data := .seq #[.int (i : Int) s.toks, u] } := (hs2.2 _ (Nat.ne_of_gt helt)).trans hT
    have z2 : 2 ≤ sizeLine := by rw [sizeLine_eq]; decide
    have I2 : Inv X pins σ (upd H s.heap.objs.size (.tup [.int (i : Int), x])) { s with heap := h2, toks := s.toks + 1 } := I1.track fT ⟨z2, [.int (i : Int) s.toks, u], .cons ⟨_, rfl⟩ (.cons ru .nil), ⟨_, hT2, rfl, _, rfl⟩⟩
    refine ⟨.ref s.heap.objs.size, _, I2, rfl, ⟨_, x, rfl, fT.1, rfl, fun ys hy => by rw [I.list_inj hy hq]; exact hx⟩, ⟨⟨u, ?_⟩, hit'.at fun o q => (hs2.2 it (Ne.symm hne)).trans q⟩, fun b hb => ?_⟩
    · have e3 : (((i + 1 : Nat) : Int)) = (i : Int) + 1 := by omega
      rw [e3]; exact he2
    · rcases List.mem_cons.mp hb with rfl | hb
      · rw [upd_ne (Nat.ne_of_lt helt)]; exact fe.1
      · have e2 : b = it := by simpa using hb
        subst e2
        rw [upd_ne (Nat.ne_of_lt hilt)]; exact fi.1
  done := by
    intro X hP hw hK hc i pins s σ H E I hf st hg
    subst hP hw hK
    obtain ⟨⟨old, he⟩, hit⟩ := st
    obtain ⟨xs, hq, hx⟩ := hg
    obtain ⟨its, rv, p, hz⟩ := I.list hq
    obtain ⟨f0, f1, f2, f3, f4, f5⟩ := hf it (by simp)
    have hl := rv.length
    exact wpAny_pyNext_enum_end (I.ok.hd hc) he hit p.isList (Array.getElem?_eq_none (by simp; omega)) fun h' eb => ⟨rfl, I.turned (t' := s.toks) (fun b o hb q => eb b o hb q) f0 f1 f3 f4 f5⟩
  self := fun _ _ _ _ _ st h => by
    obtain ⟨⟨old, he⟩, _⟩ := st
    exact wpAny_pyIter_enum he h
def iEnum (K : PySem.W.Frag) (ta : TA) : TI := fun σ H R => ta σ H fun vs H1 => ∃ a, vs = [.ref a] ∧ (∃ xs, SqL K H1 a xs) ∧ R (Ite K a) H1
theorem pi_enum {a : Expr} {ta : TA} {p pos tpos : Pos} {es : List Expr} {k : Nat} (hg : Gl X "enumerate") (hm : X.mg "enumerate" = none) (hb : bootBuiltins "enumerate" = some (.type "enumerate")) (ha : PA X [a] ta) (hs : starEach [a] X.env = [(false, eval a X.env)] := by rfl) :
    PI X (.Tuple es k tpos) (.Call (.Name "enumerate" p) [a] [] pos) (iEnum X.K ta) := by
  intro pins s σ H R I h
  refine Call_ (ld_blt I hg hm hb (PyProof.Rows.callWith_type1 (thn (ha pos pins s σ H _ I h) fun us s1 ⟨vs, H1, I1, r1, q1⟩ => ?_) hs rfl))
  obtain ⟨l, rfl, ⟨xs, hq⟩, q⟩ := q1
  obtain ⟨u, rfl, rx⟩ := vals1 r1
  cases rx
  obtain ⟨its, rv, pl, hz⟩ := I1.list hq
  refine call_enumerate_list pl.isList fun h' he hit hsz hk => ?_
  have I2 : Inv X pins σ H1 { s1 with heap := h' } := I1.kept (t' := s1.toks) hk
  refine wpAny_pyIter_enum he ?_
  have f1 : FpOk X pins H1 s1.heap.objs.size := I1.fpOk (Nat.le_refl _) (I1.hok.fresh (Nat.le_refl _))
  have f2 : FpOk X pins H1 (s1.heap.objs.size + 1) := I1.fpOk (Nat.le_succ _) (I1.hok.fresh (Nat.le_succ _))
  refine ⟨_, [s1.heap.objs.size + 1, s1.heap.objs.size], _, _, H1, rfl, I2, turn_enum l (s1.heap.objs.size + 1) s1.heap.objs.size (Nat.succ_ne_self _), ⟨⟨_, he⟩, hit⟩, fun b hb => ?_, q⟩
  rcases List.mem_cons.mp hb with rfl | hb
  · exact f2
  · have e2 : b = s1.heap.objs.size := by simpa using hb
    subst e2; exact f1
end
theorem for_enum {K : PySem.W.Frag} {a : Addr} {xs : List V} {g : TG} {tb : TS} {D : Ends} {σ : St} {H : Hp} (Pv : Nat → St → Hp → Prop) (h0 : Pv 0 σ H) (hl : ∀ i σ H, i ≤ xs.length → Pv i σ H → SqL K H a xs)
    (hs : ∀ i x σ H T, xs[i]? = some x → Pv i σ H → H T = none → g (.ref T) σ (upd H T (.tup [.int (i : Int), x])) fun σ2 H2 => tb { D with nx := Pv (i + 1), ct := Pv (i + 1), bk := D.nx } σ2 H2) (hd : ∀ σ H, Pv xs.length σ H → D.nx σ H) :
    ∃ W : Nat → Nat → St → Hp → Prop, (∃ m, W 0 m σ H) ∧ ∀ i m σ H, W i m σ H →
      ((Ite K a).stop i H ∧ D.nx σ H) ∨ ((Ite K a).go i H ∧ ∃ N : St → Hp → Prop, (∀ σ' H', N σ' H' → ∃ m', m' < m ∧ W (i + 1) m' σ' H') ∧ ∀ x H', (Ite K a).yld i H x H' → g x σ H' fun σ2 H2 => tb { D with nx := N, ct := N, bk := D.nx } σ2 H2) := by
  refine ⟨fun i m σ H => m = xs.length - i ∧ i ≤ xs.length ∧ Pv i σ H, ⟨xs.length, by simp, Nat.zero_le _, h0⟩, ?_⟩
  rintro i m σ H ⟨rfl, hi, p⟩
  have q := hl i σ H hi p
  by_cases hlt : i < xs.length
  · refine .inr ⟨⟨xs, xs[i], q, by simp [hlt]⟩, Pv (i + 1), fun σ' H' p' => ⟨xs.length - (i + 1), by omega, rfl, hlt, p'⟩, fun x H' y => ?_⟩
    obtain ⟨T, y, rfl, hT, rfl, hy⟩ := y
    exact hs i y σ H T (hy xs q) p hT
  · have e : i = xs.length := by omega
    subst e
    exact .inl ⟨⟨xs, q, Nat.le_refl _⟩, hd σ H p⟩
section
variable {g : Blk → TG} {tt : Blk → TT} {te : Blk → TE} {k : Nat} {σ : St} {Q : VK} {H : Hp}
theorem comp_range {lo : Int} {n : Nat} (Pv : Nat → List V → Hp → Prop) (h0 : Pv 0 [] H) (hn : n ≤ 1000) (hz : ∀ i acc H, i ≤ n → Pv i acc H → acc.length ≤ i)
    (hs : ∀ i acc H b, i < n → Pv i acc H → ∀ R : List V → Hp → Prop, (∀ acc H, Pv (i + 1) acc H → R acc H) → g b (.int (lo + i)) (List.replicate k none ++ σ) H fun σ2 H2 => tt b σ2 H2 fun c H3 => if c = true then te b σ2 H3 fun v H4 => R (acc ++ [v]) H4 else R acc H3)
    (hd : ∀ acc H, Pv n acc H → ∀ p, H p = none → Q (.ref p) (upd H p (.lst acc))) : CompW (Itr lo n) g tt te k σ H Q := by
  have line : n < sizeLine := by rw [sizeLine_eq]; omega
  refine ⟨fun i m acc H => m = n - i ∧ i ≤ n ∧ Pv i acc H, ⟨n, by simp, Nat.zero_le _, h0⟩, ?_⟩
  rintro i m acc H ⟨rfl, hi, p⟩
  have z := hz i acc H hi p
  by_cases hlt : i < n
  · refine .inr ⟨hlt, by omega, fun b x H' y => ?_⟩
    obtain ⟨e, y⟩ := y
    subst e y
    exact hs i acc _ b hlt p (fun a' H4 => ∃ m', m' < n - i ∧ m' = n - (i + 1) ∧ i + 1 ≤ n ∧ Pv (i + 1) a' H4) fun a' H4 pa => ⟨n - (i + 1), by omega, rfl, hlt, pa⟩
  · have e : i = n := by omega
    subst e
    exact .inl ⟨Nat.le_refl _, by omega, hd acc H p⟩
theorem comp_list {K : PySem.W.Frag} {a : Addr} {xs : List V} (Pv : Nat → List V → Hp → Prop) (h0 : Pv 0 [] H) (hn : xs.length ≤ 1000) (hz : ∀ i acc H, i ≤ xs.length → Pv i acc H → acc.length ≤ i ∧ SqL K H a xs)
    (hs : ∀ i x acc H b, xs[i]? = some x → Pv i acc H → ∀ R : List V → Hp → Prop, (∀ acc H, Pv (i + 1) acc H → R acc H) → g b x (List.replicate k none ++ σ) H fun σ2 H2 => tt b σ2 H2 fun c H3 => if c = true then te b σ2 H3 fun v H4 => R (acc ++ [v]) H4 else R acc H3)
    (hd : ∀ acc H, Pv xs.length acc H → ∀ p, H p = none → Q (.ref p) (upd H p (.lst acc))) : CompW (Itl K a) g tt te k σ H Q := by
  have line : xs.length < sizeLine := by rw [sizeLine_eq]; omega
  refine ⟨fun i m acc H => m = xs.length - i ∧ i ≤ xs.length ∧ Pv i acc H, ⟨xs.length, by simp, Nat.zero_le _, h0⟩, ?_⟩
  rintro i m acc H ⟨rfl, hi, p⟩
  obtain ⟨z, q⟩ := hz i acc H hi p
  by_cases hlt : i < xs.length
  · refine .inr ⟨⟨xs, xs[i], q, by simp [hlt]⟩, by omega, fun b x H' y => ?_⟩
    obtain ⟨e, y⟩ := y
    subst e
    exact hs i x acc _ b (y xs q) p (fun a' H4 => ∃ m', m' < xs.length - i ∧ m' = xs.length - (i + 1) ∧ i + 1 ≤ xs.length ∧ Pv (i + 1) a' H4) fun a' H4 pa => ⟨xs.length - (i + 1), by omega, rfl, hlt, pa⟩
  · have e : i = xs.length := by omega
    subst e
    exact .inl ⟨⟨xs, q, Nat.le_refl _⟩, by omega, hd acc H p⟩
theorem comp_enum {K : PySem.W.Frag} {a : Addr} {xs : List V} (Pv : Nat → List V → Hp → Prop) (h0 : Pv 0 [] H) (hn : xs.length ≤ 1000) (hz : ∀ i acc H, i ≤ xs.length → Pv i acc H → acc.length ≤ i ∧ SqL K H a xs)
    (hs : ∀ i x acc H b T, xs[i]? = some x → Pv i acc H → H T = none → ∀ R : List V → Hp → Prop, (∀ acc H, Pv (i + 1) acc H → R acc H) → g b (.ref T) (List.replicate k none ++ σ) (upd H T (.tup [.int (i : Int), x])) fun σ2 H2 => tt b σ2 H2 fun c H3 => if c = true then te b σ2 H3 fun v H4 => R (acc ++ [v]) H4 else R acc H3)
    (hd : ∀ acc H, Pv xs.length acc H → ∀ p, H p = none → Q (.ref p) (upd H p (.lst acc))) : CompW (Ite K a) g tt te k σ H Q := by
  have line : xs.length < sizeLine := by rw [sizeLine_eq]; omega
  refine ⟨fun i m acc H => m = xs.length - i ∧ i ≤ xs.length ∧ Pv i acc H, ⟨xs.length, by simp, Nat.zero_le _, h0⟩, ?_⟩
  rintro i m acc H ⟨rfl, hi, p⟩
  obtain ⟨z, q⟩ := hz i acc H hi p
  by_cases hlt : i < xs.length
  · refine .inr ⟨⟨xs, xs[i], q, by simp [hlt]⟩, by omega, fun b x H' y => ?_⟩
    obtain ⟨T, y, rfl, hT, rfl, hy⟩ := y
    exact hs i y acc H b T (hy xs q) p hT (fun a' H4 => ∃ m', m' < xs.length - i ∧ m' = xs.length - (i + 1) ∧ i + 1 ≤ xs.length ∧ Pv (i + 1) a' H4) fun a' H4 pa => ⟨xs.length - (i + 1), by omega, rfl, hlt, pa⟩
  · have e : i = xs.length := by omega
    subst e
    exact .inl ⟨⟨xs, q, Nat.le_refl _⟩, by omega, hd acc H p⟩
end
section
variable {X : Cx}
def tMid (t : TS) : TS := fun D σ H => ∃ P : St → Hp → Prop, t { D with nx := P } σ H ∧ ∀ σ' H', P σ' H' → D.nx σ' H'
theorem ps_mid {st : Stmt} {t : TS} (h : PS X st t) : PS X st (tMid t) := by
  intro pins s σ H D I hw
  obtain ⟨P, h1, h2⟩ := hw
  refine thn (h pins s σ H _ I h1) fun f s' q => ?_
  cases f with
  | next => obtain ⟨σ', H', I', z⟩ := q; exact ⟨σ', H', I', h2 σ' H' z⟩
  | brk => exact q
  | cont => exact q
  | ret u => exact q
def tMidE (t : TE) : TE := fun σ H Q => ∃ P : VK, t σ H P ∧ ∀ v H', P v H' → Q v H'
theorem pe_mid {e : Expr} {t : TE} (h : PE X e t) : PE X e (tMidE t) := by
  intro pins s σ H Q I hw
  obtain ⟨P, h1, h2⟩ := hw
  exact thn (h pins s σ H _ I h1) fun u s' ⟨v, H', I', r, z⟩ => ⟨v, H', I', r, h2 v H' z⟩
end
end L2
namespace HG
def cellM (ns : List Int) (k : Int) : Int := ns.getD k.toNat 0
def mixM (c p m : Int) : Int := c * 48271 % p % m
theorem mixM_lt {c p m : Int} (h : 0 < m) : 0 ≤ mixM c p m ∧ mixM c p m < m := ⟨Int.emod_nonneg _ (by omega), Int.emod_lt_of_pos _ h⟩
def pkey (k : Int × Int) : Int := k.1 * 1000 + k.2
def rodM (a b : Int) : Int × Int := (if b < a then b else a, if b > a then b else a)
def Grown (o : List Nat) (ks : List (Int × Int)) : Prop := ∀ (j : Nat) k, ks[j]? = some k → ∃ x : Nat, x ≤ j ∧ k = rodM (o.getD (j + 1) 0 : Nat) (o.getD x 0 : Nat)
structure HedgeOk (n : Nat) (ks : List (Int × Int)) : Prop where
  pos : 1 ≤ n
  most : n ≤ 40
  len : ks.length = n - 1
  tree : ∃ (o : List Nat) (us : List (Int × Int)), o.Perm (List.range n) ∧ us.length = n - 1 ∧ Grown o us ∧ ks.Perm us
  rise : (ks.map pkey).Pairwise (· ≤ ·)
theorem nodup_getD {o : List Nat} (h : o.Nodup) {i j : Nat} (hi : i < o.length) (hj : j < o.length) (e : o.getD i 0 = o.getD j 0) : i = j := by
  rw [List.getD_eq_getElem?_getD, List.getD_eq_getElem?_getD, List.getElem?_eq_getElem hi, List.getElem?_eq_getElem hj] at e
  exact (List.getElem_inj h).mp e
theorem getD_mem {o : List Nat} {i : Nat} (hi : i < o.length) : o.getD i 0 ∈ o := by
  rw [List.getD_eq_getElem?_getD, List.getElem?_eq_getElem hi]
  exact List.getElem_mem hi
theorem perm_range_nodup {o : List Nat} {n : Nat} (h : o.Perm (List.range n)) : o.Nodup := h.symm.nodup List.nodup_range
theorem HedgeOk.rod {n : Nat} {ks : List (Int × Int)} (h : HedgeOk n ks) {k : Int × Int} (hk : k ∈ ks) : 0 ≤ k.1 ∧ k.1 < k.2 ∧ k.2 < n := by
  obtain ⟨o, us, hp, hl, hg, hu⟩ := h.tree
  have hk' : k ∈ us := hu.mem_iff.mp hk
  obtain ⟨j, hj, rfl⟩ := List.mem_iff_getElem.mp hk'
  obtain ⟨x, hx, e⟩ := hg j _ (List.getElem?_eq_getElem hj)
  have lo : o.length = n := by rw [hp.length_eq, List.length_range]
  have m1 : o.getD (j + 1) 0 < n := List.mem_range.mp (hp.mem_iff.mp (getD_mem (by omega)))
  have m2 : o.getD x 0 < n := List.mem_range.mp (hp.mem_iff.mp (getD_mem (by omega)))
  have ne : o.getD (j + 1) 0 ≠ o.getD x 0 := fun z => by
    have := nodup_getD (perm_range_nodup hp) (by omega) (by omega) z
    omega
  rw [e]
  unfold rodM
  generalize o.getD (j + 1) 0 = p at *
  generalize o.getD x 0 = q at *
  dsimp only
  refine ⟨?_, ?_, ?_⟩
  · split <;> omega
  · split <;> split <;> omega
  · split <;> omega
def nbr (v : Int) (k : Int × Int) : List Int := (if k.1 = v then [k.2] else []) ++ (if k.2 = v then [k.1] else [])
def nb (ks : List (Int × Int)) (v : Int) : List Int := ks.flatMap (nbr v)
def rowM (ks : List (Int × Int)) (v : Int) : List Int := ks.flatMap fun k => if k.1 = v ∨ k.2 = v then [k.1 + k.2 - v] else []
theorem rowM_nb {ks : List (Int × Int)} {v : Int} (h : ∀ k ∈ ks, k.1 ≠ k.2) : rowM ks v = nb ks v := by
  unfold rowM nb
  induction ks with
  | nil => rfl
  | cons k ks ih =>
    rw [List.flatMap_cons, List.flatMap_cons, ih fun k hk => h k (List.mem_cons_of_mem _ hk)]
    have hk := h k List.mem_cons_self
    congr 1
    unfold nbr
    by_cases h1 : k.1 = v
    · rw [if_pos (.inl h1), if_pos h1, if_neg (by omega)]
      have : k.1 + k.2 - v = k.2 := by omega
      rw [this]; rfl
    · by_cases h2 : k.2 = v
      · rw [if_pos (.inr h2), if_neg h1, if_pos h2]
        have : k.1 + k.2 - v = k.1 := by omega
        rw [this]; rfl
      · rw [if_neg (by intro z; exact z.elim h1 h2), if_neg h1, if_neg h2]; rfl
theorem mem_nbr {v u : Int} {k : Int × Int} (h : u ∈ nbr v k) : (k.1 = v ∧ u = k.2) ∨ (k.2 = v ∧ u = k.1) := by
  unfold nbr at h
  rcases List.mem_append.mp h with z | z
  · by_cases e : k.1 = v
    · rw [if_pos e] at z; exact .inl ⟨e, by simpa using z⟩
    · rw [if_neg e] at z; cases z
  · by_cases e : k.2 = v
    · rw [if_pos e] at z; exact .inr ⟨e, by simpa using z⟩
    · rw [if_neg e] at z; cases z
theorem nb_sorted {n : Nat} {ks : List (Int × Int)} (h : HedgeOk n ks) (v : Int) : (nb ks v).Pairwise (· ≤ ·) := by
  unfold nb
  have hr := h.rise
  have hb : ∀ k ∈ ks, 0 ≤ k.1 ∧ k.1 < k.2 ∧ k.2 < 1000 := fun k hk => by
    have := h.rod hk
    have := h.most
    omega
  rw [List.pairwise_map] at hr
  rw [List.pairwise_flatMap]
  refine ⟨fun k hk => ?_, ?_⟩
  · have := hb k hk
    unfold nbr
    by_cases h1 : k.1 = v
    · rw [if_pos h1, if_neg (by omega)]; simp
    · rw [if_neg h1]; split <;> simp
  · refine List.Pairwise.imp_of_mem ?_ hr
    intro a b ha hb' hab x hx y hy
    have a1 := hb a ha
    have b1 := hb b hb'
    unfold pkey at hab
    rcases mem_nbr hx with ⟨e1, e2⟩ | ⟨e1, e2⟩ <;> rcases mem_nbr hy with ⟨e3, e4⟩ | ⟨e3, e4⟩ <;> omega
theorem sorted_perm_eq : ∀ {l m : List Int}, l.Perm m → l.Pairwise (· ≤ ·) → m.Pairwise (· ≤ ·) → l = m := by
  intro l m hp hl hm
  exact hp.eq_of_pairwise (fun a b _ _ h1 h2 => Int.le_antisymm h1 h2) hl hm
theorem nb_take {ks : List (Int × Int)} {v : Int} {i : Nat} {k : Int × Int} (h : ks[i]? = some k) : nb (ks.take (i + 1)) v = nb (ks.take i) v ++ nbr v k := by
  unfold nb
  have : ks.take (i + 1) = ks.take i ++ [k] := by
    rw [List.take_add_one, h]; rfl
  rw [this, List.flatMap_append, List.flatMap_cons, List.flatMap_nil, List.append_nil]
theorem rowM_take {ks : List (Int × Int)} {v : Int} {i : Nat} {k : Int × Int} (h : ks[i]? = some k) : rowM (ks.take (i + 1)) v = rowM (ks.take i) v ++ (if k.1 = v ∨ k.2 = v then [k.1 + k.2 - v] else []) := by
  unfold rowM
  have : ks.take (i + 1) = ks.take i ++ [k] := by
    rw [List.take_add_one, h]; rfl
  rw [this, List.flatMap_append, List.flatMap_cons, List.flatMap_nil, List.append_nil]
theorem nb_len (ks : List (Int × Int)) (v : Int) : (nb ks v).length ≤ 2 * ks.length := by
  unfold nb
  induction ks with
  | nil => simp
  | cons k ks ih =>
    rw [List.flatMap_cons, List.length_append, List.length_cons]
    have : (nbr v k).length ≤ 2 := by unfold nbr; split <;> split <;> simp
    omega
theorem rowM_len (ks : List (Int × Int)) (v : Int) : (rowM ks v).length ≤ ks.length := by
  unfold rowM
  induction ks with
  | nil => simp
  | cons k ks ih =>
    rw [List.flatMap_cons, List.length_append, List.length_cons]
    have : (if k.1 = v ∨ k.2 = v then [k.1 + k.2 - v] else ([] : List Int)).length ≤ 1 := by split <;> simp
    omega
end HG
namespace HG
open PySem PySem.W PyProof.Rows
def Good {α : Type} (n : Nat) (lt : Nat → Nat → Bool) : KasT α → (α → Prop) → Prop
  | .ret a, Q => Q a
  | .ask i j k, Q => i < n ∧ j < n ∧ Good n lt (k (lt i j)) Q
theorem Good.bind {α β : Type} {n : Nat} {lt : Nat → Nat → Bool} {f : α → KasT β} {Q : β → Prop} : ∀ (t : KasT α), Good n lt t (fun a => Good n lt (f a) Q) → Good n lt (t.bind f) Q
  | .ret _, h => h
  | .ask _ _ k, ⟨h1, h2, h3⟩ => ⟨h1, h2, Good.bind (k _) h3⟩
theorem Good.mono {α : Type} {n : Nat} {lt : Nat → Nat → Bool} {Q Q' : α → Prop} (hq : ∀ a, Q a → Q' a) : ∀ (t : KasT α), Good n lt t Q → Good n lt t Q'
  | .ret _, h => hq _ h
  | .ask _ _ k, ⟨h1, h2, h3⟩ => ⟨h1, h2, Good.mono hq (k _) h3⟩
theorem Good.wp {α : Type} {n : Nat} {lt : Nat → Nat → Bool} {cmp : Nat → Nat → (Bool → Shared → Prop) → Shared → Prop} {s : Shared} {Q : α → Prop} {R : α → Shared → Prop}
    (hc : ∀ i j (C : Bool → Shared → Prop), i < n → j < n → C (lt i j) s → cmp i j C s) (hq : ∀ a, Q a → R a s) : ∀ (t : KasT α), Good n lt t Q → t.kasWp cmp R s
  | .ret _, h => hq _ h
  | .ask i j k, ⟨h1, h2, h3⟩ => hc i j _ h1 h2 (Good.wp hc hq (k _) h3)
section
variable {n : Nat} {key : Nat → Int}
def ltK (key : Nat → Int) (i j : Nat) : Bool := decide (key i < key j)
def PB (n : Nat) (p : Array Nat) : Prop := p.Perm (List.range n).toArray
def kv (key : Nat → Int) (p : Array Nat) (i : Nat) : Int := key (p.getD i 0)
def SortedA (key : Nat → Int) (p : Array Nat) (k : Nat) : Prop := ∀ i j, i ≤ j → j < k → kv key p i ≤ kv key p j
def NonIncA (key : Nat → Int) (p : Array Nat) (k : Nat) : Prop := ∀ i j, i ≤ j → j < k → kv key p j ≤ kv key p i
theorem PB.size {p : Array Nat} (h : PB n p) : p.size = n := by
  have := Array.Perm.size_eq h
  simpa using this
theorem PB.lt {p : Array Nat} (h : PB n p) (hn : 0 < n) (i : Nat) : p.getD i 0 < n := by
  by_cases hi : i < p.size
  · have e : p.getD i 0 = p[i] := by simp [Array.getD, hi]
    have hm : p[i] ∈ (List.range n) := by
      have h1 : p[i] ∈ p.toList := by simp
      exact (Array.perm_iff_toList_perm.mp h).mem_iff.mp h1
    rw [e]; exact List.mem_range.mp hm
  · have e : p.getD i 0 = 0 := by simp [Array.getD, hi]
    rw [e]; exact hn
theorem PB.mirror {p : Array Nat} (h : PB n p) (i j d : Nat) : PB n (PyProof.Rows.mirror p i j d) := (mirror_perm p i j d).trans h
theorem PB.bubble {p : Array Nat} (h : PB n p) (i d : Nat) : PB n (PyProof.Rows.bubble p i d) := (bubble_perm p i d).trans h
theorem kv_congr {p q : Array Nat} {i j : Nat} (h : p[i]? = q[j]?) : kv key p i = kv key q j := by
  unfold kv
  rw [Array.getD_eq_getD_getElem?, Array.getD_eq_getD_getElem?, h]
theorem kv_mirror {p : Array Nat} {i j : Nat} (hj : j ≤ p.size) (k : Nat) : kv key (kas_rev p i j) k = if i ≤ k ∧ k < j then kv key p (i + j - 1 - k) else kv key p k := by
  have e := getElem?_mirror_all (i := i) hj k
  unfold kas_rev
  by_cases h1 : i ≤ k ∧ k < j
  · rw [if_pos h1] at e ⊢; exact kv_congr e
  · rw [if_neg h1] at e ⊢; exact kv_congr e
theorem kv_mirror_eq {p : Array Nat} {i j : Nat} (hj : j ≤ p.size) (heq : ∀ k, i ≤ k → k < j → kv key p k = kv key p (j - 1)) (k : Nat) : kv key (kas_rev p i j) k = kv key p k := by
  rw [kv_mirror hj]
  split
  · rw [heq _ (by omega) (by omega), heq k (by omega) (by omega)]
  · rfl
theorem kv_bubble {p : Array Nat} {src d : Nat} (hs : src < p.size) (hd : d ≤ src) (k : Nat) :
    kv key (bubble p src d) k = if k = src - d then kv key p src else if src - d < k ∧ k ≤ src then kv key p (k - 1) else kv key p k := by
  have e := getElem?_bubble hs d hd k
  by_cases h1 : k = src - d
  · rw [if_pos h1] at e ⊢; exact kv_congr e
  · rw [if_neg h1] at e ⊢
    by_cases h2 : src - d < k ∧ k ≤ src
    · rw [if_pos h2] at e ⊢; exact kv_congr e
    · rw [if_neg h2] at e ⊢; exact kv_congr e
theorem ltK_kv (p : Array Nat) (i j : Nat) : ltK key (p.getD i 0) (p.getD j 0) = decide (kv key p i < kv key p j) := rfl
theorem good_asc {p : Array Nat} (hn : 0 < n) (hB : PB n p) {Q : Nat → Prop} : ∀ (f a : Nat), 1 ≤ a → a + f ≤ n → SortedA key p a →
    (∀ m, a ≤ m → m ≤ a + f → SortedA key p m → (m = a + f ∨ kv key p m < kv key p (m - 1)) → Q m) → Good n (ltK key) (kas_asc p f a) Q
  | 0, a, _, _, hs, h => h a (Nat.le_refl _) (Nat.le_refl _) hs (.inl rfl)
  | f + 1, a, h1, ha, hs, h => by
    refine ⟨hB.lt hn _, hB.lt hn _, ?_⟩
    rw [ltK_kv]; dsimp only
    by_cases c : kv key p a < kv key p (a - 1)
    · rw [if_pos (decide_eq_true c)]
      exact h a (Nat.le_refl _) (by omega) hs (.inr c)
    · rw [if_neg (by simpa using c)]
      refine good_asc hn hB f (a + 1) (by omega) (by omega) (fun i j hij hj => ?_) (fun m hm1 hm2 hs' ho => h m (by omega) (by omega) hs' ?_)
      · by_cases hja : j < a
        · exact hs i j hij hja
        · have e : j = a := by omega
          subst e
          by_cases hi : i = j
          · subst hi; exact Int.le_refl _
          · have := hs i (j - 1) (by omega) (by omega)
            omega
      · rcases ho with e | e
        · exact .inl (by omega)
        · exact .inr e
def EqTail (key : Nat → Int) (p : Array Nat) (m q : Nat) : Prop := ∀ i, m - (q + 1) ≤ i → i < m → kv key p i = kv key p (m - 1)
theorem good_desc (hn : 0 < n) {Q : Array Nat × Nat × Nat → Prop} : ∀ (f : Nat) (p : Array Nat) (x q : Nat), PB n p → 1 ≤ x → x + f ≤ n → NonIncA key p x → q + 1 ≤ x → EqTail key p x q →
    (∀ p' m q', PB n p' → x ≤ m → m ≤ x + f → NonIncA key p' m → q' + 1 ≤ m → EqTail key p' m q' → Q (p', m, q')) → Good n (ltK key) (kas_desc f p x q) Q
  | 0, p, x, q, hB, _, _, hs, hq, he, h => h p x q hB (Nat.le_refl _) (Nat.le_refl _) hs hq he
  | f + 1, p, x, q, hB, h1, hx, hs, hq, he, h => by
    have hsz : x ≤ p.size := by rw [hB.size]; omega
    refine ⟨hB.lt hn _, hB.lt hn _, ?_⟩
    rw [ltK_kv]; dsimp only
    by_cases c : kv key p x < kv key p (x - 1)
    · rw [if_pos (decide_eq_true c)]
      have step1 : ∀ p' : Array Nat, (∀ k, kv key p' k = kv key p k) → NonIncA key p' (x + 1) := by
        intro p' hk i j hij hj
        rw [hk, hk]
        by_cases hjx : j < x
        · exact hs i j hij hjx
        · have e : j = x := by omega
          subst e
          by_cases hi : i = j
          · subst hi; exact Int.le_refl _
          · have := hs i (j - 1) (by omega) (by omega)
            omega
      have tail0 : ∀ p' : Array Nat, EqTail key p' (x + 1) 0 := fun p' i h2 h3 => by
        have e : i = x + 1 - 1 := by omega
        subst e; rfl
      by_cases hq0 : q > 0
      · rw [if_pos hq0]
        refine good_desc hn f (kas_rev p (x - (q + 1)) x) (x + 1) 0 (hB.mirror _ _ _) (by omega) (by omega) (step1 _ (kv_mirror_eq hsz he)) (by omega) (tail0 _) (fun p' m q' a b c d e g => h p' m q' a (by omega) (by omega) d e g)
      · rw [if_neg hq0]
        refine good_desc hn f p (x + 1) 0 hB (by omega) (by omega) (step1 _ fun _ => rfl) (by omega) (tail0 _) (fun p' m q' a b c d e g => h p' m q' a (by omega) (by omega) d e g)
    · rw [if_neg (by simpa using c)]
      refine ⟨hB.lt hn _, hB.lt hn _, ?_⟩
      rw [ltK_kv]; dsimp only
      by_cases c2 : kv key p (x - 1) < kv key p x
      · rw [if_pos (decide_eq_true c2)]
        exact h p x q hB (Nat.le_refl _) (by omega) hs hq he
      · rw [if_neg (by simpa using c2)]
        have heq : kv key p x = kv key p (x - 1) := by omega
        refine good_desc hn f p (x + 1) (q + 1) hB (by omega) (by omega) (fun i j hij hj => ?_) (by omega) (fun i h2 h3 => ?_) (fun p' m q' a b c d e g => h p' m q' a (by omega) (by omega) d e g)
        · by_cases hjx : j < x
          · exact hs i j hij hjx
          · have e : j = x := by omega
            subst e
            by_cases hi : i = j
            · subst hi; exact Int.le_refl _
            · have := hs i (j - 1) (by omega) (by omega)
              omega
        · rw [show x + 1 - 1 = x by omega]
          by_cases hix : i = x
          · subst hix; rfl
          · rw [heq]; exact he i (by omega) (by omega)
def Fin2 (key : Nat → Int) (n : Nat) (r : Nat × Array Nat) : Prop := PB n r.2 ∧ 1 ≤ r.1 ∧ r.1 ≤ n ∧ SortedA key r.2 r.1
theorem good_tail3 (hn : 0 < n) {p : Array Nat} {m : Nat} (hB : PB n p) (h1 : 1 ≤ m) (hm : m ≤ n) (hs : NonIncA key p m) : Good n (ltK key) (kas_tail3 m n p) (Fin2 key n) := by
  unfold kas_tail3
  have hsz : m ≤ p.size := by rw [hB.size]; omega
  have hB' : PB n (kas_rev p 0 m) := hB.mirror _ _ _
  refine Good.bind _ (good_asc hn hB' (n - m) m h1 (by omega) (fun i j hij hj => ?_) fun k hk1 hk2 hs' _ => ⟨hB', by show 1 ≤ k; omega, by show k ≤ n; omega, hs'⟩)
  rw [kv_mirror hsz, kv_mirror hsz, if_pos (by omega), if_pos (by omega)]
  exact hs _ _ (by omega) (by omega)
theorem good_descPart (hn : 0 < n) {p : Array Nat} {m : Nat} (hB : PB n p) (hm : m + 1 ≤ n) (hs : NonIncA key p (m + 1)) : Good n (ltK key) (kas_descPart m n p) (Fin2 key n) := by
  unfold kas_descPart
  refine Good.bind _ (good_desc hn (n - (m + 1)) p (m + 1) 0 hB (by omega) (by omega) hs (by omega) (fun i h2 h3 => ?_) fun p' k q' hB' hk1 hk2 hs' hq' he' => ?_)
  · have e : i = m + 1 - 1 := by omega
    subst e; rfl
  · have hsz : k ≤ p'.size := by rw [hB'.size]; omega
    dsimp only
    by_cases hq0 : q' > 0
    · rw [if_pos hq0]
      refine good_tail3 hn (hB'.mirror _ _ _) (by omega) (by omega) (fun i j hij hj => ?_)
      have e1 := kv_mirror_eq hsz he' i
      have e2 := kv_mirror_eq hsz he' j
      rw [e1, e2]
      exact hs' i j hij hj
    · rw [if_neg hq0]
      exact good_tail3 hn hB' (by omega) (by omega) hs'
theorem good_count (hn : 0 < n) {p : Array Nat} (hB : PB n p) : Good n (ltK key) (kas_count n p) (Fin2 key n) := by
  unfold kas_count
  refine Good.bind _ (good_asc hn hB (n - 1) 1 (Nat.le_refl _) (by omega) (fun i j hij hj => ?_) fun m hm1 hm2 hs ho => ?_)
  · have e : i = j := by omega
    subst e; exact Int.le_refl _
  · by_cases hmn : m = n
    · rw [if_pos (by simpa using hmn)]
      exact ⟨hB, hm1, by show m ≤ n; omega, hs⟩
    · rw [if_neg (by simpa using hmn)]
      have hlt : kv key p m < kv key p (m - 1) := by
        rcases ho with e | e
        · exact absurd (by omega) hmn
        · exact e
      by_cases hgt : m > 1
      · rw [if_pos hgt]
        refine ⟨hB.lt hn _, hB.lt hn _, ?_⟩
        rw [ltK_kv]; dsimp only
        by_cases c : kv key p 0 < kv key p (m - 1)
        · rw [if_pos (decide_eq_true c)]
          exact ⟨hB, hm1, by show m ≤ n; omega, hs⟩
        · rw [if_neg (by simpa using c)]
          have hsz : m ≤ p.size := by rw [hB.size]; omega
          have hall : ∀ k, 0 ≤ k → k < m → kv key p k = kv key p (m - 1) := by
            intro k _ hk
            have a1 := hs 0 k (by omega) hk
            have a2 := hs k (m - 1) (by omega) (by omega)
            omega
          refine good_descPart hn (hB.mirror _ _ _) (by omega) (fun i j hij hj => ?_)
          have e1 := kv_mirror_eq hsz hall i
          have e2 := kv_mirror_eq hsz hall j
          rw [e1, e2]
          by_cases hjm : j < m
          · rw [hall i (by omega) (by omega), hall j (by omega) hjm]; exact Int.le_refl _
          · have e : j = m := by omega
            subst e
            by_cases hi : i = j
            · subst hi; exact Int.le_refl _
            · rw [hall i (by omega) (by omega)]; omega
      · rw [if_neg hgt]
        have e : m = 1 := by omega
        subst e
        refine good_descPart hn hB (by omega) (fun i j hij hj => ?_)
        by_cases hi : i = j
        · subst hi; exact Int.le_refl _
        · have hi0 : i = 0 := by omega
          have hj1 : j = 1 := by omega
          subst hi0; subst hj1
          exact Int.le_of_lt hlt
theorem good_place (hn : 0 < n) {p : Array Nat} {k : Nat} (hB : PB n p) (hs : SortedA key p k) {Q : Nat → Prop} (h : ∀ l, l ≤ k → (∀ i, i < l → kv key p i ≤ kv key p k) → (∀ i, l ≤ i → i < k → kv key p k < kv key p i) → Q l) :
    ∀ (f l r : Nat), l ≤ r → r ≤ k → r - l ≤ f → (∀ i, i < l → kv key p i ≤ kv key p k) → (∀ i, r ≤ i → i < k → kv key p k < kv key p i) → Good n (ltK key) (kas_place p k f l r) Q
  | 0, l, r, hlr, hrk, hf, hlo, hhi => by
    have e : l = r := by omega
    subst e
    exact h l hrk hlo hhi
  | f + 1, l, r, hlr, hrk, hf, hlo, hhi => by
    unfold kas_place
    by_cases hge : l ≥ r
    · rw [if_pos hge]
      have e : l = r := by omega
      subst e
      exact h l hrk hlo hhi
    · rw [if_neg hge]
      refine ⟨hB.lt hn _, hB.lt hn _, ?_⟩
      rw [ltK_kv]; dsimp only
      by_cases c : kv key p k < kv key p ((l + r) / 2)
      · rw [if_pos (decide_eq_true c)]
        refine good_place hn hB hs h f l ((l + r) / 2) (by omega) (by omega) (by omega) hlo fun i h1 h2 => ?_
        have := hs _ _ h1 h2
        omega
      · rw [if_neg (by simpa using c)]
        refine good_place hn hB hs h f ((l + r) / 2 + 1) r (by omega) (by omega) (by omega) (fun i h1 => ?_) hhi
        have := hs i ((l + r) / 2) (by omega) (by omega)
        omega
theorem good_bin (hn : 0 < n) : ∀ (f : Nat) (p : Array Nat) (k : Nat), PB n p → k + f = n → SortedA key p k → Good n (ltK key) (kas_bin f p k) (fun q => PB n q ∧ SortedA key q n)
  | 0, p, k, hB, hk, hs => ⟨hB, by have e : k = n := by omega
                                   rw [← e]; exact hs⟩
  | f + 1, p, k, hB, hk, hs => by
    unfold kas_bin
    refine Good.bind _ (good_place hn hB hs (fun l hl hlo hhi => ?_) k 0 k (by omega) (by omega) (by omega) (fun i hi => by omega) (fun i h1 h2 => by omega))
    refine good_bin hn f _ (k + 1) (hB.bubble _ _) (by omega) fun i j hij hj => ?_
    have hks : k < p.size := by rw [hB.size]; omega
    rw [kv_bubble hks (by omega), kv_bubble hks (by omega), show k - (k - l) = l by omega]
    repeat' split
    all_goals first
      | (exfalso; omega)
      | exact Int.le_refl _
      | exact hlo _ (by omega)
      | exact Int.le_of_lt (hhi _ (by omega) (by omega))
      | exact hs _ _ (by omega) (by omega)
theorem good_sort (hn : 0 < n) : Good n (ltK key) (kas_sort n) (fun q => PB n q ∧ SortedA key q n) := by
  unfold kas_sort
  refine Good.bind _ (Good.mono (fun r hr => ?_) _ (good_count hn (p := (List.range n).toArray) (Array.Perm.refl _)))
  obtain ⟨hB, h1, h2, hs⟩ := hr
  by_cases hlt : r.1 < n
  · rw [if_pos hlt]
    refine good_bin hn _ _ _ hB (by omega) (by rw [show max r.1 1 = r.1 by omega]; exact hs)
  · rw [if_neg hlt]
    have e : r.1 = n := by omega
    exact ⟨hB, by rw [← e]; exact hs⟩
end
end HG
namespace L2
open PySem PySem.Spec PyProof.Rows
section
variable {prog : Program} {w : World} {A : Around} {E : Value → Shared → Prop} {s : Shared}
theorem sort_tree {a : Addr} {vs : List Value} {n : Nat} {kd : SortKind} {key : Nat → Int} {P : PySem.Fin → Shared → Prop} (ho : s.heap.get? a = some (seqObj "list" vs.toArray n)) (h64 : vs.length < 64)
    (hkd : 2 ≤ vs.length → ∀ h' : Heap, (∀ b o, b ≠ a → s.heap.get? b = some o → h'.get? b = some o) → ∀ (Q : SortKind → Shared → Prop), Q kd { s with heap := h' } → wpAny (model prog w) A (keyKind' vs.toArray) Q E { s with heap := h' })
    (hlt : ∀ h' : Heap, (∀ b o, b ≠ a → s.heap.get? b = some o → h'.get? b = some o) → ∀ i j (C : Bool → Shared → Prop), i < vs.length → j < vs.length → C (HG.ltK key i j) { s with heap := h' } → wpAny (model prog w) A (keyLt' kd (vs.getD i Value.none) (vs.getD j Value.none)) C (fun _ _ => False) { s with heap := h' })
    (h : ∀ q : Array Nat, HG.PB vs.length q → HG.SortedA key q vs.length → P (.done (.ret .none)) { s with heap := sortedHeap s.heap a vs (List.toArray (q.toList.map fun i => vs.getD i Value.none)) }) :
    wpAny (model prog w) A (Builtin.«list.sort» ⟨[.ref a], []⟩) P E s := by
  have ha : a < s.heap.objs.size := Heap.lt_size ho
  rw [list_sort_plain]
  refine wpAny_bind (listItems_at ho rfl ?_)
  refine wpAny_bind (listUpdate_at ho rfl ?_ (by rw [List.size_toArray, sizeLine_eq]; omega) (Nat.zero_le _))
  obtain ⟨e1, ho1⟩ : ∃ e1, (s.heap.update a (Obj.mapSeq fun _ => (#[] : Array Value))).get? a = some (seqObj "list" #[] e1) := ⟨_, get?_update_seq ho fun _ => #[]⟩
  refine wpAny_bind (seqEpoch_at ho1 rfl ?_)
  refine wpAny_bind (wpAny_newTuple ?_ (by show vs.length ≤ _; rw [sizeLine_eq]; omega))
  refine wpAny_bind (wpAny_newList ?_ (Nat.zero_le _))
  refine wpAny_holding ?_
  have ho6 : (((s.heap.update a (Obj.mapSeq fun _ => (#[] : Array Value))).push (seqObj "tuple" vs.toArray 0)).push (seqObj "list" #[] 0)).get? a = some (seqObj "list" #[] e1) := by
    rw [Heap.get?_push_ne _ _ _ (by rw [size_push', Heap.size_update]; exact Nat.ne_of_lt (Nat.lt_succ_of_lt ha)), Heap.get?_push_ne _ _ _ (by rw [Heap.size_update]; exact Nat.ne_of_lt ha)]
    exact ho1
  have kp : ∀ b o, b ≠ a → s.heap.get? b = some o → (((s.heap.update a (Obj.mapSeq fun _ => (#[] : Array Value))).push (seqObj "tuple" vs.toArray 0)).push (seqObj "list" #[] 0)).get? b = some o := fun b o hb q => by
    have hlt : b < s.heap.objs.size := Heap.lt_size q
    rw [Heap.get?_push_ne _ _ _ (by rw [size_push', Heap.size_update]; exact Nat.ne_of_lt (Nat.lt_succ_of_lt hlt)), Heap.get?_push_ne _ _ _ (by rw [Heap.size_update]; exact Nat.ne_of_lt hlt), Heap.get?_update_ne _ _ _ _ hb]
    exact q
  show wpAny (model prog w) A _ P E { s with heap := ((s.heap.update a (Obj.mapSeq fun _ => (#[] : Array Value))).push (seqObj "tuple" vs.toArray 0)).push (seqObj "list" #[] 0) }
  dsimp only
  have hsz : vs.toArray.size = vs.length := by simp
  by_cases h2 : vs.toArray.size < 2
  · rw [if_pos h2, if_pos h2]
    refine wpAny_bind (wpAny_pure ?_)
    rw [StateT.run_pure]
    refine wpAny_bind (wpAny_pure ?_)
    dsimp only
    refine wpAny_bind (seqEpoch_at ho6 rfl ?_)
    refine wpAny_bind (listUpdate_at ho6 rfl ?_ (hsz2 := by rw [Array.size_map]; show (pairsOf vs).size ≤ _; rw [pairsOf_size, sizeLine_eq]; omega))
    simp only [bne_self_eq_false, Bool.false_eq_true, if_false]
    have fin := h (List.range vs.length).toArray (Array.Perm.refl _) (fun i j hij hj => by
      have e : i = j := by omega
      subst e
      exact Int.le_refl _)
    have eo : List.toArray ((List.range vs.length).toArray.toList.map fun i => vs.getD i Value.none) = (vs.toArray.zip vs.toArray).map (·.2) := by
      apply Array.toList_inj.mp
      apply List.ext_getElem
      · simp
      · intro i h1 h2
        simp at h1 h2 ⊢
        simp [h1]
    rw [eo] at fin
    exact wpAny_pure fin
  · rw [if_neg h2, if_neg h2]
    refine wpAny_bind (hkd (by omega) _ kp _ ?_)
    refine wpAny_bind (wpAny_mono (PySem.W.kat_run (κ := kd) (ks := vs) (vs := vs) (Q := fun st' s' => ∃ p : Array Nat, arrOf st' = p.map (PySem.W.kas_item (vs.toArray.zip vs.toArray)) ∧ failedOf st' = none ∧ HG.PB vs.length p ∧ HG.SortedA key p vs.length ∧
        s' = { s with heap := ((s.heap.update a (Obj.mapSeq fun _ => (#[] : Array Value))).push (seqObj "tuple" vs.toArray 0)).push (seqObj "list" #[] 0) })
      (G := fun p s' => HG.PB vs.length p ∧ HG.SortedA key p vs.length ∧ s' = { s with heap := ((s.heap.update a (Obj.mapSeq fun _ => (#[] : Array Value))).push (seqObj "tuple" vs.toArray 0)).push (seqObj "list" #[] 0) })
      rfl (by omega) h64 (fun p' st' s' a1 a2 a3 a4 => ⟨p', a2, a3, a4.1, a4.2.1, a4.2.2⟩)
      (HG.Good.wp (fun i j C hi hj hc => hlt _ kp i j C hi hj hc) (fun p hp => ⟨hp.1, hp.2, rfl⟩) _ (HG.good_sort (key := key) (by omega)))) ?_ fun _ _ e => e)
    rintro ⟨⟨⟩, st'⟩ s' ⟨p, har, hf, hB, hS, rfl⟩
    dsimp only
    have hout := PySem.W.kat_snds (ks := vs) (vs := vs) rfl har
    have hps : p.size = vs.length := hB.size
    rw [hout]
    refine wpAny_bind (seqEpoch_at ho6 rfl ?_)
    refine wpAny_bind (listUpdate_at ho6 rfl ?_ (Nat.zero_le _) (by simp only [List.size_toArray, List.length_map, Array.length_toList]; rw [hps, sizeLine_eq]; omega))
    rw [hf]
    simp only [bne_self_eq_false, Bool.false_eq_true, if_false]
    exact wpAny_pure (h p hB hS)
theorem sorted_tree {l : Addr} {vs : List Value} {kd : SortKind} {key : Nat → Int} {Q : Value → Shared → Prop} (hl : s.heap.IsList l vs.toArray) (h64 : vs.length < 64)
    (hkd : 2 ≤ vs.length → ∀ (A' : Around) (h' : Heap), (∀ b o, s.heap.get? b = some o → h'.get? b = some o) → ∀ (Q : SortKind → Shared → Prop) (E : Value → Shared → Prop), Q kd { s with heap := h' } → wpAny (model prog w) A' (keyKind' vs.toArray) Q E { s with heap := h' })
    (hlt : ∀ (A' : Around) (h' : Heap), A'.units ≤ A.units + 2 → (∀ b o, s.heap.get? b = some o → h'.get? b = some o) → ∀ i j (C : Bool → Shared → Prop), i < vs.length → j < vs.length → C (HG.ltK key i j) { s with heap := h' } → wpAny (model prog w) A' (keyLt' kd (vs.getD i Value.none) (vs.getD j Value.none)) C (fun _ _ => False) { s with heap := h' })
    (h : ∀ q : Array Nat, HG.PB vs.length q → HG.SortedA key q vs.length → Q (.ref (s.heap.objs.size + 1)) { s with heap := sortedAll s.heap vs (List.toArray (q.toList.map fun i => vs.getD i Value.none)) }) :
    wpAny (model prog w) A (call (.builtin "sorted") [.ref l]) Q E s := by
  refine Calls.call_function_entry kind_sorted plain_sorted entry_sorted (args_sorted1 _) ?_
  unfold Builtin.«sorted»
  refine wpAny_bind (m := checkCount "sorted" 1 1 _) (wpAny_pure ?_)
  refine wpAny_bind (collect_list hl ?_ (by rw [sizeLine_eq]; omega))
  refine wpAny_bind (wpAny_newList ?_ (by rw [sizeLine_eq]; omega))
  have hsz : ((s.heap.push (seqObj "list" #[] 0)).update s.heap.objs.size (Obj.mapSeq (· ++ vs.toArray))).objs.size = s.heap.objs.size + 1 := by
    rw [Heap.size_update, size_push']
  have hoL : (((s.heap.push (seqObj "list" #[] 0)).update s.heap.objs.size (Obj.mapSeq (· ++ vs.toArray))).push (seqObj "list" vs.toArray 0)).get? (s.heap.objs.size + 1) = some (seqObj "list" vs.toArray 0) := by
    rw [← hsz]; exact Heap.get?_push_size _ rfl
  have keep : ∀ b o, s.heap.get? b = some o → (((s.heap.push (seqObj "list" #[] 0)).update s.heap.objs.size (Obj.mapSeq (· ++ vs.toArray))).push (seqObj "list" vs.toArray 0)).get? b = some o := fun b o q => by
    have hlt : b < s.heap.objs.size := Heap.lt_size q
    rw [Heap.get?_push_ne _ _ _ (by rw [hsz]; exact Nat.ne_of_lt (Nat.lt_succ_of_lt hlt)), Heap.get?_update_ne _ _ _ _ (Nat.ne_of_lt hlt), Heap.get?_push_ne _ _ _ (Nat.ne_of_lt hlt)]
    exact q
  show wpAny _ _ _ _ _ { s with heap := ((s.heap.push (seqObj "list" #[] 0)).update s.heap.objs.size (Obj.mapSeq (· ++ vs.toArray))).push (seqObj "list" vs.toArray 0) }
  rw [hsz]
  have ne : ∀ b o, s.heap.get? b = some o → b ≠ s.heap.objs.size + 1 := fun b o q => Nat.ne_of_lt (Nat.lt_succ_of_lt (Heap.lt_size q))
  refine wpAny_bind (wpAny_holding (wpAny_call_entry slot_list_sort ⟨_, hoL, rfl⟩ entry_list_sort ?body (args_list_sort _)))
  case body =>
    refine sort_tree (s := { s with heap := ((s.heap.push (seqObj "list" #[] 0)).update s.heap.objs.size (Obj.mapSeq (· ++ vs.toArray))).push (seqObj "list" vs.toArray 0) }) (kd := kd) (key := key) hoL h64
      (fun h2 h' kp Q' hq => hkd h2 _ h' (fun b o q => kp b o (ne b o q) (keep b o q)) Q' _ hq) (fun h' kp i j C hi hj hc => hlt _ h' ?un (fun b o q => kp b o (ne b o q) (keep b o q)) i j C hi hj hc) fun q hB hS => ⟨_, rfl, wpAny_pure ⟨_, rfl, h q hB hS⟩⟩
    case un => exact Nat.le_refl _
end
section
variable {X : Cx}
def IsPairs (K : PySem.W.Frag) (H : Hp) (as : List Addr) (ks : List (Int × Int)) : Prop := as.length = ks.length ∧ ∀ (i : Nat) a k, as[i]? = some a → ks[i]? = some k → SqT K H a [.int k.1, .int k.2]
theorem call_sorted_pairs (hu : X.A.units + 64 < cLine) : CallR X (.builtin "sorted") (fun xs H Q => ∃ p as ks, xs = [.ref p] ∧ SqL X.K H p (as.map V.ref) ∧ IsPairs X.K H as ks ∧ as.length < 64 ∧ (∀ k ∈ ks, 0 ≤ k.2 ∧ k.2 < 1000) ∧
    ∀ q : List Nat, q.Perm (List.range as.length) → (q.map fun i => HG.pkey (ks.getD i (0, 0))).Pairwise (· ≤ ·) → ∀ l, H l = none → Q (.ref l) (upd H l (.lst (q.map fun i => V.ref (as.getD i 0))))) := by
  intro pins s σ H xs us Q I r h
  obtain ⟨p, as, ks, rfl, hq, ⟨hlen, hpr⟩, h64, hb, q⟩ := h
  obtain ⟨u, rfl, rx⟩ := vals1 r
  cases rx
  obtain ⟨its, rv, pl, hz⟩ := I.list hq
  have hl := rv.length
  rw [List.length_map] at hl
  -- each item is a tuple of two ints, also in any grown heap
  have item : ∀ i, i < its.length → ∃ a k, as[i]? = some a ∧ ks[i]? = some k ∧ its[i]? = some (.ref a) ∧ ∃ o t1 t2 n, s.heap.get? a = some o ∧ o.cls = .type "tuple" ∧ o.data = .seq #[.int k.1 t1, .int k.2 t2] n := fun i hi => by
    have hia : i < as.length := by omega
    have hik : i < ks.length := by omega
    refine ⟨as[i], ks[i], by simp [hia], by simp [hik], ?_⟩
    obtain ⟨v, ev, rvv⟩ := rv.get (i := i) (x := .ref as[i]) (by simp [hia])
    cases rvv
    refine ⟨ev, ?_⟩
    obtain ⟨it2, r2, ⟨o, ho, hc, n, hd⟩, _⟩ := I.tuple (hpr i as[i] ks[i] (by simp [hia]) (by simp [hik]))
    cases r2 with
    | cons ra rr =>
      cases rr with
      | cons rb rr2 =>
        cases rr2
        obtain ⟨t1, rfl⟩ := ra
        obtain ⟨t2, rfl⟩ := rb
        exact ⟨o, t1, t2, n, ho, hc, by rw [hd]⟩
  have h64' : its.length < 64 := by omega
  refine sorted_tree (kd := tuples' true) (key := fun i => HG.pkey (ks.getD i (0, 0))) pl.isList h64' (fun h2 A' h' kp Q' E' hq' => ?_) (fun A' h' hu' kp i j C hi hj hc => ?_) fun w hB hS => ?_
  · -- the kind of the keys
    have go : ∀ (n : Nat), n ≤ its.length → PySem.W.KatTups h' (its.drop n) ((its.drop n).zipIdx n |>.map fun x => match (h'.get? (match x.1 with | .ref a => a | _ => 0)) with | some o => (match o.data with | .seq ys _ => ys.getD 0 Value.none | _ => Value.none) | none => Value.none) := by
      intro n hn
      induction hk : its.length - n generalizing n with
      | zero =>
        have : its.drop n = [] := List.drop_eq_nil_of_le (by omega)
        rw [this]; exact PySem.W.KatTups.nil
      | succ m ih =>
        have hn' : n < its.length := by omega
        obtain ⟨a, k, _, _, e3, o, t1, t2, nn, ho, hc, hd⟩ := item n hn'
        have e4 : its[n] = .ref a := by
          have : its[n]? = some its[n] := by simp
          rw [this] at e3; exact Option.some.inj e3
        rw [List.drop_eq_getElem_cons hn', e4, List.zipIdx_cons, List.map_cons]
        have ho' := kp a o ho
        simp only [ho', hd]
        exact PySem.W.KatTups.cons ho' hc hd (by simp) (ih (n + 1) (by omega) (by omega))
    have t := go 0 (Nat.zero_le _)
    rw [List.drop_zero] at t
    refine PySem.W.kat_kind (s := { s with heap := h' }) (T := .type "int") t (by simp; omega) (fun v hv => ?_) (by decide) hq'
    obtain ⟨x, hx, rfl⟩ := List.mem_map.mp hv
    obtain ⟨xv, xi⟩ := x
    have hx' := List.mem_zipIdx hx
    obtain ⟨_, hlt2, hxe⟩ := hx'
    obtain ⟨a, k, _, _, e3, o, t1, t2, nn, ho, hc, hd⟩ := item xi (by omega)
    have e4 : xv = .ref a := by
      rw [hxe]
      have : its[xi - 0]? = some its[xi - 0] := by simp
      have e3' : its[xi - 0]? = some (.ref a) := by simpa using e3
      rw [this] at e3'; exact Option.some.inj e3'
    subst e4
    have ho' := kp a o ho
    simp only [ho', hd]
    exact .now
  · obtain ⟨a, k, ea, ek, e3, o, t1, t2, nn, ho, hc1, hd⟩ := item i hi
    obtain ⟨a', k', ea', ek', e3', o', t1', t2', nn', ho', hc1', hd'⟩ := item j hj
    have g1 : its.getD i Value.none = .ref a := by rw [List.getD_eq_getElem?_getD, e3]; rfl
    have g2 : its.getD j Value.none = .ref a' := by rw [List.getD_eq_getElem?_getD, e3']; rfl
    have k1 : ks.getD i (0, 0) = k := by rw [List.getD_eq_getElem?_getD, ek]; rfl
    have k2 : ks.getD j (0, 0) = k' := by rw [List.getD_eq_getElem?_getD, ek']; rfl
    have b1 := hb k (List.mem_of_getElem? ek)
    have b2 := hb k' (List.mem_of_getElem? ek')
    rw [g1, g2]
    have ec : HG.ltK (fun i => HG.pkey (ks.getD i (0, 0))) i j = decide (k.1 * 1000 + k.2 < k'.1 * 1000 + k'.2) := by
      unfold HG.ltK HG.pkey
      simp only [k1, k2]
    rw [ec] at hc
    refine PySem.W.kat_lt (kp a o ho) hd (kp a' o' ho') hd' (PySem.W.kat_cons (SeqAt.EqAt.int_int k.1 t1 k'.1 t1' X.prog X.w _ _ ?_))
    refine PySem.W.kat_go (fun e => ?_) (fun e => ?_)
    · have e1 : k.1 = k'.1 := by simpa using e
      refine PySem.W.kat_yes (PySem.W.kat_cons (SeqAt.EqAt.int_int k.2 t2 k'.2 t2' X.prog X.w _ _ ?_))
      refine PySem.W.kat_go (fun e2 => ?_) (fun e2 => ?_)
      · have e2' : k.2 = k'.2 := by simpa using e2
        refine PySem.W.kat_yes (PySem.W.kat_nil ?_)
        have : decide (k.1 * 1000 + k.2 < k'.1 * 1000 + k'.2) = decide ((#[Value.int k.1 t1, Value.int k.2 t2] : Array Value).size < (#[Value.int k'.1 t1', Value.int k'.2 t2'] : Array Value).size) := by
          rw [e1, e2']; simp
        rw [← this]; exact hc
      · have e2' : k.2 ≠ k'.2 := by simpa using e2
        refine PySem.W.kat_no (PySem.W.kat_one _ _ (lt_int ?_))
        have : decide (k.1 * 1000 + k.2 < k'.1 * 1000 + k'.2) = decide (k.2 < k'.2) := by rw [e1]; congr 1; apply propext; constructor <;> intro z <;> omega
        show C _ _
        rw [← this]; exact hc
    · have e1 : k.1 ≠ k'.1 := by simpa using e
      refine PySem.W.kat_no (oneLt_int ?_)
      have : decide (k.1 * 1000 + k.2 < k'.1 * 1000 + k'.2) = decide (k.1 < k'.1) := by congr 1; apply propext; constructor <;> intro z <;> omega
      rw [← this]; exact hc
  · obtain ⟨e, he⟩ := sortedAll_at s.heap its (List.toArray (w.toList.map fun i => its.getD i Value.none))
    have kp : ∀ b o, s.heap.get? b = some o → (sortedAll s.heap its (List.toArray (w.toList.map fun i => its.getD i Value.none))).get? b = some o := fun b o q => sortedAll_old q
    have hw : w.toList.Perm (List.range its.length) := by
      have := Array.perm_iff_toList_perm.mp hB
      simpa using this
    have hw' : w.toList.Perm (List.range as.length) := by rw [hl]; exact hw
    have rv2 : Vals (w.toList.map fun i => V.ref (as.getD i 0)) (w.toList.map fun i => its.getD i Value.none) := by
      have all : ∀ ws : List Nat, (∀ i ∈ ws, i < its.length) → Vals (ws.map fun i => V.ref (as.getD i 0)) (ws.map fun i => its.getD i Value.none) := by
        intro ws
        induction ws with
        | nil => intro _; exact .nil
        | cons i ws ih =>
          intro hi
          obtain ⟨a, k, ea, ek, e3, _⟩ := item i (hi i List.mem_cons_self)
          refine .cons ?_ (ih fun j hj => hi j (List.mem_cons_of_mem _ hj))
          show RelV (V.ref (as.getD i 0)) (its.getD i Value.none)
          rw [List.getD_eq_getElem?_getD, List.getD_eq_getElem?_getD, e3, ea]
          rfl
      exact all _ fun i hi => List.mem_range.mp (hw.mem_iff.mp hi)
    have zl : (w.toList.map fun i => V.ref (as.getD i 0)).length ≤ sizeLine := by
      rw [List.length_map, hw'.length_eq, List.length_range, sizeLine_eq]; omega
    have srt : (w.toList.map fun i => HG.pkey (ks.getD i (0, 0))).Pairwise (· ≤ ·) := by
      rw [List.pairwise_iff_getElem]
      intro i j hi hj hij
      have hi' : i < w.size := by simpa using hi
      have hj' : j < w.size := by simpa using hj
      have z := hS i j (Nat.le_of_lt hij) (by rw [← hB.size]; exact hj')
      unfold HG.kv at z
      simp only [List.getElem_map]
      have e1 : w.getD i 0 = w.toList[i] := by simp [Array.getD, hi']
      have e2 : w.getD j 0 = w.toList[j] := by simp [Array.getD, hj']
      rw [e1, e2] at z
      exact z
    have fr : H (s.heap.objs.size + 1) = none := I.hok.fresh (Nat.le_succ _)
    exact ⟨.ref (s.heap.objs.size + 1), _, I.laid (t' := s.toks) kp (Nat.le_succ _) (show ObjOk X.prog X.w _ _ _ (.lst _) from ⟨zl, _, e, rv2, he⟩), rfl, q _ hw' srt _ fr⟩
theorem call_sorted_ints : CallR X (.builtin "sorted") (fun xs H Q => ∃ p ns, xs = [.ref p] ∧ SqL X.K H p (ns.map V.int) ∧ ns.length < 64 ∧
    ∀ ms : List Int, ms.Perm ns → ms.Pairwise (· ≤ ·) → ∀ l, H l = none → Q (.ref l) (upd H l (.lst (ms.map V.int)))) := by
  intro pins s σ H xs us Q I r h
  obtain ⟨p, ns, rfl, hq, h64, q⟩ := h
  obtain ⟨u, rfl, rx⟩ := vals1 r
  cases rx
  obtain ⟨its, rv, pl, hz⟩ := I.list hq
  have hl := rv.length
  rw [List.length_map] at hl
  refine sorted_ints pl.isList (intsAre_of rv) (by omega) fun out ms a1 a2 a3 => ?_
  obtain ⟨e, he⟩ := sortedAll_at s.heap its out
  have rv2 : ∀ {us : List Value} {ms : List Int}, IntsAre us ms → Vals (ms.map V.int) us := by
    intro us ms hi
    induction hi with
    | nil => exact .nil
    | cons n t _ ih => exact .cons ⟨t, rfl⟩ ih
  have zl : (ms.map V.int).length ≤ sizeLine := by rw [List.length_map, a2.length_eq, sizeLine_eq]; omega
  have fr : H (s.heap.objs.size + 1) = none := I.hok.fresh (Nat.le_succ _)
  exact ⟨.ref (s.heap.objs.size + 1), _, I.laid (t' := s.toks) (fun b o q => sortedAll_old q) (Nat.le_succ _) (show ObjOk X.prog X.w _ _ _ (.lst _) from ⟨zl, out.toList, e, rv2 a1, by simpa using he⟩), rfl, q _ a2 a3 _ fr⟩
end
end L2
namespace L2
open PySem PySem.Spec PyProof.Rows
theorem rev_no_len : typeLookup (.type "list_reverseiterator") "__len__" = pure none := by rw [typeLookup_type, builtinLookup_eq_fast]; kernel_rfl
theorem rev_hint_look : typeLookup (.type "list_reverseiterator") "__length_hint__" = pure (some (.builtin "list_reverseiterator.__length_hint__")) := by rw [typeLookup_type, builtinLookup_eq_fast]; kernel_rfl
section
variable {prog : Program} {w : World} {A : Around} {E : Value → Shared → Prop} {s : Shared}
theorem rev_hint {r : Addr} {Q : Bool → Shared → Prop} (hT : s.TypeIs (.ref r) "list_reverseiterator") (h : Q false s) : wpAny (model prog w) A (Builtin.List.listLengthHint (.ref r)) Q E s := by
  unfold Builtin.List.listLengthHint
  refine wpAny_bind (wpAny_specialOf hT rev_no_len ?_)
  wp_delta
  refine wpAny_ite_split (fun hab => absurd hab (by decide)) (fun _ => ?_)
  refine wpAny_bind (wpAny_specialOf hT rev_hint_look ?_)
  generalize hid : ("list_reverseiterator.__length_hint__" : String) = id0
  wp_delta
  rw [show splitId id0 = some ("list_reverseiterator", "__length_hint__") from by subst hid; decide +kernel]
  subst hid
  refine wpAny_bind (wpAny_isInstance (T := "list_reverseiterator") (b := true) hT (by rw [isSubtype_type]; kernel_rfl) ?_)
  refine wpAny_ite_split (fun hab => absurd hab (by decide)) (fun _ => ?_)
  refine wpAny_ite_split (fun _ => ?_) (fun hab => absurd (by decide +kernel) hab)
  refine wpAny_ite_split (fun hab => absurd hab (by decide +kernel)) (fun _ => ?_)
  exact wpAny_pure h
theorem rev_list_init {R : Result → Shared → Prop} {I l S : Addr} {items : Array Value} (hh : A.handled = none) (hit : s.heap.IsRevIter I l ((items.size : Int) - 1)) (hl : s.heap.IsList l items) (hSI : S ≠ I) (hSl : S ≠ l) (hIl : l ≠ I)
    (hS : s.heap.get? S = some { cls := .type "list", data := .seq #[] })
    (hR : ∀ h' tk acc' c', (∀ b o, b ≠ S → b ≠ I → s.heap.get? b = some o → h'.get? b = some o) → h'.get? S = some { cls := .type "list", dict := none, data := .seq acc' c', slots := #[] } → ItemsOf (fun i v => items[items.size - 1 - i]? = some v) acc' items.size →
      R (.ok (.ret .none)) { s with heap := h', toks := tk }) (hn : items.size ≤ sizeLine) :
    wpAny (model prog w) A.in1 (Builtin.«list.__init__» ⟨[.ref S, .ref I], []⟩)
      (fun fin s' => match fin with | .done f => R (.ok f) s' | .again c' => c'.quiet = true ∧ codeAny (model prog w) A c' R s') (fun e s' => R (.error e) s') s := by
  have hSf : S ∉ [I, l] := by simp only [List.mem_cons, List.not_mem_nil, or_false, not_or]; exact ⟨hSI, hSl⟩
  show wpAny _ _ (do let old ← Builtin.List.listItems (.ref S); Builtin.List.listUpdate (.ref S) (fun _ => #[]); letGo old.toList.reverse; Builtin.List.listExtendWith (.ref S) (.ref I) .none) _ _ s
  refine wpAny_bind ?_
  unfold Builtin.List.listItems
  refine wpAny_bind (wpAny_seqItems hS rfl (wpAny_pure ?_))
  show wpAny _ _ (updateSeq S (fun _ => #[]) >>= fun _ => letGo (#[] : Array Value).toList.reverse >>= fun _ => Builtin.List.listExtendWith (.ref S) (.ref I) .none) _ _ s
  refine wpAny_bind (wpAny_updateSeq hS rfl ?_)
  have hS2 := Heap.get?_update_self (Obj.mapSeq (fun _ => (#[] : Array Value))) hS rfl
  have oth : ∀ b o, b ≠ S → s.heap.get? b = some o → (s.heap.update S (Obj.mapSeq (fun _ => (#[] : Array Value)))).get? b = some o :=
    fun b o hb e => (Heap.get?_update_other _ _ (Ne.symm hb)).trans e
  refine wpAny_bind (wpAny_letGo ?_)
  have hit2 : (s.heap.update S (Obj.mapSeq (fun _ => (#[] : Array Value)))).IsRevIter I l ((items.size : Int) - 1) := hit.at fun o e => oth I o (Ne.symm hSI) e
  have hl2 : (s.heap.update S (Obj.mapSeq (fun _ => (#[] : Array Value)))).IsList l items := hl.at fun o e => oth l o (Ne.symm hSl) e
  unfold Builtin.List.listExtendWith
  refine wpAny_bind (wpAny_typeOf (T := "list_reverseiterator") hit2.typeIs ?_)
  have h1 : Builtin.List.listSameRef (.ref S) (.ref I) = false := by simp [Builtin.List.listSameRef, hSI]
  have h2 : (Value.type "list_reverseiterator" == Value.type "list") = false := by decide
  have h3 : (Value.type "list_reverseiterator" == Value.type "tuple") = false := by decide
  simp only [h1, h2, h3, Bool.or_false, Bool.false_eq_true, if_false]
  refine wpAny_bind (wpAny_pyIter_revIter hit2 ?_)
  refine wpAny_bind (wpAny_holding (rev_hint hit2.typeIs ?_))
  refine wpAny_ite_split (fun hab => absurd hab (by decide +kernel)) (fun _ => ?_)
  have W := Walks.listRev (prog := prog) (w := w) (A := A.in1) hh I l hIl items
  refine wpAny_pure ⟨plainId_quiet PySem.F.plain_extend_loop _, ?_⟩
  refine codeAny_extend_loopS W.toS hn S hSf .none items.size 0 _ #[] _ rfl (Nat.zero_le _) ⟨Nat.zero_le _, by simpa using hit2, hl2⟩ hS2 (ItemsOf.nil _) fun s' acc' c' hm hS' hacc => ?_
  rw [Moved.eq_with hm]
  refine hR s'.heap s'.toks acc' c' (fun b o hb hbI e => hm.heap b o (fun hmem => ?_) (oth b o hb e)) hS' hacc
  rcases List.mem_cons.mp hmem with e' | hmem
  · exact hb e'
  · exact hbI (List.mem_singleton.mp hmem)
theorem list_of_rev {I l : Addr} {items : Array Value} {Q : Value → Shared → Prop} (hh : A.handled = none) (hit : s.heap.IsRevIter I l ((items.size : Int) - 1)) (hl : s.heap.IsList l items) (hIl : l ≠ I) (hn : items.size ≤ sizeLine)
    (hQ : ∀ h' tk acc' c', (∀ b o, b ≠ I → s.heap.get? b = some o → h'.get? b = some o) → h'.get? s.heap.objs.size = some { cls := .type "list", dict := none, data := .seq acc' c', slots := #[] } → ItemsOf (fun i v => items[items.size - 1 - i]? = some v) acc' items.size →
      Q (.ref s.heap.objs.size) { s with heap := h', toks := tk }) : wpAny (model prog w) A (call (.type "list") [.ref I]) Q E s := by
  refine callType_codes (Q₁ := fun obj s1 => obj = .ref s.heap.objs.size ∧ s1 = { s with heap := s.heap.push { cls := .type "list", data := .seq #[] } }) PySem.F.called_list (PySem.F.typeCall_list_1 _) PySem.F.entry_list_init
    (code_list_new _ ⟨rfl, rfl⟩) fun obj s1 h1 => ?_
  obtain ⟨rfl, rfl⟩ := h1
  have hS : (s.heap.push { cls := .type "list", data := .seq #[] }).get? s.heap.objs.size = some { cls := .type "list", data := .seq #[] } := Heap.get?_push_size _ rfl
  obtain ⟨oI, eI, _⟩ := id hit
  obtain ⟨ol, el, _⟩ := id hl
  refine ⟨⟨_, hS, rfl⟩, PySem.F.args_list_init_2 _ _, rev_list_init (A := A.in1) hh (hit.at fun o e => Heap.get?_push_of_some _ e) (hl.at fun o e => Heap.get?_push_of_some _ e) (Nat.ne_of_gt (Heap.lt_size eI)) (Nat.ne_of_gt (Heap.lt_size el)) hIl hS (fun h' tk acc' c' hk hS' hacc => ?_) hn⟩
  exact ⟨rfl, hQ h' tk acc' c' (fun b o hb e => hk b o (Nat.ne_of_lt (Heap.lt_size e)) hb (Heap.get?_push_of_some _ e)) hS' hacc⟩
end
section
variable {X : Cx}
def tRev (K : PySem.W.Frag) (te : TE) : TE := fun σ H Q => te σ H fun x H1 => ∃ p ys, x = .ref p ∧ SqL K H1 p ys ∧ ∀ l, H1 l = none → Q (.ref l) (upd H1 l (.lst ys.reverse))
theorem pe_list_rev {e : Expr} {te : TE} {p1 p2 pos1 pos2 : Pos} (hc : X.calm = true) (hg1 : Gl X "list") (hm1 : X.mg "list" = none) (hg2 : Gl X "reversed") (hm2 : X.mg "reversed" = none) (he : PE X e te)
    (hs1 : starEach [.Call (.Name "reversed" p2) [e] [] pos2] X.env = [(false, eval (.Call (.Name "reversed" p2) [e] [] pos2) X.env)] := by rfl) (hs2 : starEach [e] X.env = [(false, eval e X.env)] := by rfl) :
    PE X (.Call (.Name "list" p1) [.Call (.Name "reversed" p2) [e] [] pos2] [] pos1) (tRev X.K te) := by
  intro pins s σ H Q I h
  refine Call_ (ld_blt I hg1 hm1 PyProof.Rows.boot_list (PyProof.Rows.callWith_type1 ?_ (by rw [hs1]; rfl) rfl))
  rw [hs1]
  show wpAny _ _ (spliced ((false, eval (.Call (.Name "reversed" p2) [e] [] pos2) X.env) :: [])) _ _ s
  refine Calls.spliced_cons ?_
  refine Call_ (ld_blt I hg2 hm2 PyProof.Rows.boot_reversed (PyProof.Rows.callWith_type1 (thn ((pa_cons he pa_nil hs2) pos2 pins s σ H (fun vs H1 => ∃ p ys, vs = [.ref p] ∧ SqL X.K H1 p ys ∧ ∀ l, H1 l = none → Q (.ref l) (upd H1 l (.lst ys.reverse))) I ?_) fun us s1 ⟨vs, H1, I1, r1, q1⟩ => ?_) (by rw [hs2]; rfl) rfl))
  · exact (show tCons te tNil σ H _ from (by
      show te σ H fun x H1 => ∃ p ys, [x] = [V.ref p] ∧ SqL X.K H1 p ys ∧ ∀ l, H1 l = none → Q (.ref l) (upd H1 l (.lst ys.reverse))
      have ef : (fun (x : V) (H1 : Hp) => ∃ p ys, [x] = [V.ref p] ∧ SqL X.K H1 p ys ∧ ∀ l, H1 l = none → Q (.ref l) (upd H1 l (.lst ys.reverse))) = fun x H1 => ∃ p ys, x = V.ref p ∧ SqL X.K H1 p ys ∧ ∀ l, H1 l = none → Q (.ref l) (upd H1 l (.lst ys.reverse)) := by
        funext x H1
        simp only [List.cons.injEq, and_true]
      rw [ef]; exact h))
  obtain ⟨p, ys, rfl, hq, q⟩ := q1
  obtain ⟨u, rfl, rx⟩ := vals1 r1
  cases rx
  obtain ⟨its, rv, pl, hz⟩ := I1.list hq
  have hlen := rv.length
  refine call_reversed_list pl.isList ?_
  refine Calls.spliced_nil ?_
  have kp : ∀ b o, s1.heap.get? b = some o → (s1.heap.push (revObj p ((its.toArray.size : Int) - 1))).get? b = some o := fun b o e => Heap.get?_push_of_some _ e
  have I2 : Inv X pins σ H1 { s1 with heap := s1.heap.push (revObj p ((its.toArray.size : Int) - 1)) } := I1.kept (t' := s1.toks) kp
  have f1 : FpOk X pins H1 s1.heap.objs.size := I1.fpOk (Nat.le_refl _) (I1.hok.fresh (Nat.le_refl _))
  have plt : p < s1.heap.objs.size := by obtain ⟨o, e, _⟩ := pl.isList; exact Heap.lt_size e
  have sz : (s1.heap.push (revObj p ((its.toArray.size : Int) - 1))).objs.size = s1.heap.objs.size + 1 := Heap.size_push ..
  refine list_of_rev (s := { s1 with heap := s1.heap.push (revObj p ((its.toArray.size : Int) - 1)) }) (I.ok.hd hc) ⟨_, Heap.get?_push_size _ rfl, rfl, rfl⟩ (pl.isList.at fun o e => kp p o e) (Nat.ne_of_lt plt) (by rw [List.size_toArray]; omega) fun h' tk acc' c' hk hS hacc => ?_
  have nit : ∀ b u, H1 b = some u → b ≠ s1.heap.objs.size := fun b u e z => by rw [z, f1.1] at e; cases e
  have I3 : Inv X pins σ H1 { s1 with heap := h', toks := tk } := I2.turned (t' := tk) (fun b o hb e => hk b o hb e) f1.1 f1.2.1 f1.2.2.2.1 f1.2.2.2.2.1 f1.2.2.2.2.2
  have f2 : FpOk X pins H1 (s1.heap.objs.size + 1) := I1.fpOk (Nat.le_succ _) (I1.hok.fresh (Nat.le_succ _))
  have rv2 : Vals ys.reverse acc'.toList := by
    have e : acc'.toList = its.reverse := by
      apply List.ext_getElem
      · rw [Array.length_toList, hacc.1]; simp
      · intro i h1 h2
        have hi : i < acc'.size := by simpa using h1
        have z := hacc.2 i acc'[i] (Array.getElem?_eq_getElem hi)
        have hi2 : i < its.length := by simpa using h2
        rw [List.getElem_reverse]
        have z2 : its[its.length - 1 - i]? = some acc'[i] := by simpa using z
        rw [List.getElem?_eq_getElem (by omega)] at z2
        simpa using (Option.some.inj z2).symm
    rw [e]; exact rv.reverse
  rw [sz] at hS ⊢
  refine ⟨.ref (s1.heap.objs.size + 1), _, I3.track f2 (show ObjOk X.prog X.w _ h' _ (.lst ys.reverse) from ⟨by rw [List.length_reverse]; exact hz, acc'.toList, c', rv2, by simpa using hS⟩), rfl, q _ f2.1⟩
theorem eq_pair {A : Around} {pins : List (Addr × Obj)} {σ : St} {H : Hp} {s : Shared} {a b : Addr} {k k' : Int × Int} (I : Inv X pins σ H s) (ha : SqT X.K H a [.int k.1, .int k.2]) (hb : SqT X.K H b [.int k'.1, .int k'.2]) (hu : A.units < cLine) :
    SeqAt.EqAt A s (.ref b) (.ref a) (decide (k' = k)) := by
  by_cases e : b = a
  · subst e
    have z := I.tuple_inj ha hb
    have e2 : k' = k := by
      simp at z
      exact Prod.ext z.1.symm z.2.symm
    rw [decide_eq_true e2]
    exact SeqAt.EqAt.same _
  · obtain ⟨i1, r1, ⟨o1, e1, c1, n1, d1⟩, _⟩ := I.tuple ha
    obtain ⟨i2, r2, ⟨o2, e2, c2, n2, d2⟩, _⟩ := I.tuple hb
    match i1, r1 with
    | [x1, y1], .cons ⟨t1, q1⟩ (.cons ⟨t2, q2⟩ .nil) =>
      match i2, r2 with
      | [x2, y2], .cons ⟨t3, q3⟩ (.cons ⟨t4, q4⟩ .nil) =>
        subst q1 q2 q3 q4
        have z := SeqAt.RcAt.tuples (A := A) (s := s) (l := b) (b := a) (items := #[.int k'.1 t3, .int k'.2 t4]) (items2 := #[.int k.1 t1, .int k.2 t2]) (e := fun j => if j = 0 then k'.1 == k.1 else k'.2 == k.2) ⟨o2, e2, c2, n2, d2⟩ ⟨o1, e1, c1, n1, d1⟩ hu
          (fun j h1 h2 => by
            match j, h1, h2 with
            | 0, _, _ => exact SeqAt.EqAt.int_int k'.1 t3 k.1 t1
            | 1, _, _ => exact SeqAt.EqAt.int_int k'.2 t4 k.2 t2
            | j + 2, h1, _ => simp at h1; omega)
        refine .of_refs e ?_
        have e3 : ((List.range (min (#[Value.int k'.1 t3, Value.int k'.2 t4] : Array Value).size (#[Value.int k.1 t1, Value.int k.2 t2] : Array Value).size)).all (fun j => if j = 0 then k'.1 == k.1 else k'.2 == k.2) && (#[Value.int k'.1 t3, Value.int k'.2 t4] : Array Value).size == (#[Value.int k.1 t1, Value.int k.2 t2] : Array Value).size) = decide (k' = k) := by
          show ((List.range 2).all (fun j => if j = 0 then k'.1 == k.1 else k'.2 == k.2) && true) = decide (k' = k)
          rw [Bool.and_true, show List.range 2 = [0, 1] from rfl]
          simp only [List.all_cons, List.all_nil, Bool.and_true, if_true]
          obtain ⟨p, q⟩ := k
          obtain ⟨p', q'⟩ := k'
          by_cases h1 : p' = p <;> by_cases h2 : q' = q <;> simp [h1, h2]
        rw [e3] at z
        exact z
def rInP (K : PySem.W.Frag) (neg : Bool) : R2 := fun x y H Q => ∃ a p k as ks, x = .ref a ∧ y = .ref p ∧ SqT K H a [.int k.1, .int k.2] ∧ SqL K H p (as.map V.ref) ∧ IsPairs K H as ks ∧ Q (.bl (if neg then !decide (k ∈ ks) else decide (k ∈ ks))) H
theorem any_pairs {k : Int × Int} {as : List Addr} {ks : List (Int × Int)} {its : List Value} (e : Value → Bool) (hl : as.length = ks.length) (rv : Vals (as.map V.ref) its) (he : ∀ (i : Nat) b c, as[i]? = some b → ks[i]? = some c → e (.ref b) = decide (c = k)) : its.toArray.any e = decide (k ∈ ks) := by
  have e1 : its = as.map Value.ref := by
    clear he hl
    induction as generalizing its with
    | nil => cases rv; rfl
    | cons a as ih =>
      cases rv with
      | cons r t =>
        cases r
        rw [List.map_cons, ← ih t]
  subst e1
  rw [List.any_toArray, List.any_map]
  by_cases hk : k ∈ ks
  · rw [decide_eq_true hk, List.any_eq_true]
    obtain ⟨j, hj, ej⟩ := List.mem_iff_getElem.mp hk
    refine ⟨as[j]'(by omega), List.getElem_mem _, ?_⟩
    show e (.ref (as[j]'(by omega))) = true
    rw [he j _ _ (List.getElem?_eq_getElem (by omega)) (List.getElem?_eq_getElem hj), decide_eq_true ej]
  · rw [decide_eq_false hk, List.any_eq_false]
    intro b hb
    obtain ⟨j, hj, rfl⟩ := List.mem_iff_getElem.mp hb
    show ¬ e (.ref as[j]) = true
    have hjk : j < ks.length := by omega
    rw [he j _ _ (List.getElem?_eq_getElem hj) (List.getElem?_eq_getElem hjk)]
    simp only [decide_eq_true_eq]
    intro z
    exact hk (z ▸ List.getElem_mem hjk)
open Classical in
noncomputable def pairHit (as : List Addr) (ks : List (Int × Int)) (k : Int × Int) : Value → Bool := fun v => decide (∃ (i : Nat) (b : Addr), v = .ref b ∧ as[i]? = some b ∧ ks[i]? = some k)
open Classical in
theorem pairHit_eq {pins : List (Addr × Obj)} {σ : St} {H : Hp} {s : Shared} {as : List Addr} {ks : List (Int × Int)} {k : Int × Int} (I : Inv X pins σ H s) (hp : IsPairs X.K H as ks) (i : Nat) (b : Addr) (c : Int × Int) (h1 : as[i]? = some b) (h2 : ks[i]? = some c) :
    pairHit as ks k (.ref b) = decide (c = k) := by
  unfold pairHit
  by_cases e : c = k
  · subst e
    rw [decide_eq_true ⟨i, b, rfl, h1, h2⟩]
    simp
  · have no : ¬ ∃ (j : Nat) (b' : Addr), Value.ref b = .ref b' ∧ as[j]? = some b' ∧ ks[j]? = some k := by
      rintro ⟨j, b', e1, e2, e3⟩
      cases e1
      have z := I.tuple_inj (hp.2 i b c h1 h2) (hp.2 j b k e2 e3)
      simp at z
      exact e (Prod.ext z.1 z.2)
    rw [decide_eq_false no]
    simp [e]
theorem op_in_pairs (hu : X.A.units + 16 < cLine) : OpR X (compareOp .In) (rInP X.K false) := by
  intro pins s σ H x y v u Q I rx ry h
  obtain ⟨a, p, k, as, ks, rfl, rfl, ha, hp, hpr, q⟩ := h
  cases rx; cases ry
  obtain ⟨its, rv, pl, hz⟩ := I.list hp
  have hl := rv.length
  rw [List.length_map] at hl
  have key : ∀ y ∈ its, SeqAt.EqAt X.A.in1 s y (.ref a) (pairHit as ks k y) := fun y hy => by
    obtain ⟨j, hj, rfl⟩ := List.mem_iff_getElem.mp hy
    have hja : j < as.length := by omega
    have hjk : j < ks.length := by rw [← hpr.1]; exact hja
    obtain ⟨u, eu, ru⟩ := rv.get (i := j) (x := .ref as[j]) (by simp [hja])
    rw [List.getElem?_eq_getElem hj] at eu
    have e1 := Option.some.inj eu
    cases ru
    rw [e1, pairHit_eq I hpr j _ _ (List.getElem?_eq_getElem hja) (List.getElem?_eq_getElem hjk)]
    exact eq_pair I ha (hpr.2 j _ _ (List.getElem?_eq_getElem hja) (List.getElem?_eq_getElem hjk)) (by show X.A.units + 1 < cLine; omega)
  refine SeqAt.in_listAt (pairHit as ks k) pl.isList (fun y hy => key y (by simpa using hy)) ⟨.bl _, H, I, rfl, ?_⟩
  rw [any_pairs (pairHit as ks k) hpr.1 rv fun i b c h1 h2 => pairHit_eq I hpr i b c h1 h2]
  exact q
theorem op_notIn_pairs (hu : X.A.units + 16 < cLine) : OpR X (compareOp .NotIn) (rInP X.K true) := by
  intro pins s σ H x y v u Q I rx ry h
  obtain ⟨a, p, k, as, ks, rfl, rfl, ha, hp, hpr, q⟩ := h
  cases rx; cases ry
  obtain ⟨its, rv, pl, hz⟩ := I.list hp
  have hl := rv.length
  rw [List.length_map] at hl
  have key : ∀ y ∈ its, SeqAt.EqAt X.A.in1 s y (.ref a) (pairHit as ks k y) := fun y hy => by
    obtain ⟨j, hj, rfl⟩ := List.mem_iff_getElem.mp hy
    have hja : j < as.length := by omega
    have hjk : j < ks.length := by rw [← hpr.1]; exact hja
    obtain ⟨u, eu, ru⟩ := rv.get (i := j) (x := .ref as[j]) (by simp [hja])
    rw [List.getElem?_eq_getElem hj] at eu
    have e1 := Option.some.inj eu
    cases ru
    rw [e1, pairHit_eq I hpr j _ _ (List.getElem?_eq_getElem hja) (List.getElem?_eq_getElem hjk)]
    exact eq_pair I ha (hpr.2 j _ _ (List.getElem?_eq_getElem hja) (List.getElem?_eq_getElem hjk)) (by show X.A.units + 1 < cLine; omega)
  refine SeqAt.notIn_listAt (pairHit as ks k) pl.isList (fun y hy => key y (by simpa using hy)) ⟨.bl _, H, I, rfl, ?_⟩
  rw [any_pairs (pairHit as ks k) hpr.1 rv fun i b c h1 h2 => pairHit_eq I hpr i b c h1 h2]
  exact q
end
end L2
namespace L2
open PySem PySem.Spec PyProof.Rows
section
variable {X : Cx} {a b c d : Expr} {ta tb tc td : TE} {pos : Pos}
def tChain3 (r r' r'' : R2) (ta tb tc td : TE) : TE := fun σ H Q => ta σ H fun x H1 => tb σ H1 fun y H2 => r x y H2 fun z H3 => ∃ k, z = .bl k ∧
  (if k = true then tc σ H3 fun x' H4 => r' y x' H4 fun z' H5 => ∃ k', z' = .bl k' ∧ (if k' = true then td σ H5 fun x'' H6 => r'' x' x'' H6 Q else Q (.bl false) H5) else Q (.bl false) H3)
theorem pe_chain3 {op op' op'' : CmpOp} {r r' r'' : R2} (ho : OpR X (compareOp op) r) (ho' : OpR X (compareOp op') r') (ho'' : OpR X (compareOp op'') r'') (ha : PE X a ta) (hb : PE X b tb) (hc : PE X c tc) (hd : PE X d td)
    (hm : lastMarks [op, op', op''] [b, c, d] = false := by with_unfolding_all rfl) : PE X (.Compare a [op, op', op''] [b, c, d] pos) (tChain3 r r' r'' ta tb tc td) := by
  intro pins s σ H Q I h
  refine Compare_chain (thn (ha pins s σ H _ I h) fun v s1 ⟨x, H1, I1, r1, q1⟩ => chain_link (thn (hb pins s1 σ H1 _ I1 q1) fun u s2 ⟨y, H2, I2, r2, q2⟩ =>
    thn (ho pins s2 σ H2 x y v u _ I2 r1 r2 q2) fun dd s3 ⟨z, H3, I3, r3, k, e, q3⟩ => ?_)) hm
  subst e
  cases r3
  refine wpAny_truthy_bool ?_
  cases k with
  | false => exact ite_ff ⟨.bl false, H3, I3, rfl, q3⟩
  | true =>
    refine ite_tt (chain_link (thn (hc pins s3 σ H3 _ I3 q3) fun u' s4 ⟨y', H4, I4, r4, q4⟩ => thn (ho' pins s4 σ H4 y y' u u' _ I4 r2 r4 q4) fun dd s5 ⟨z, H5, I5, r5, k, e, q5⟩ => ?_))
    subst e
    cases r5
    refine wpAny_truthy_bool ?_
    cases k with
    | false => exact ite_ff ⟨.bl false, H5, I5, rfl, q5⟩
    | true => exact ite_tt (chain_last (thn (hd pins s5 σ H5 _ I5 q5) fun w' s6 ⟨z', H6, I6, r6, q6⟩ => ho'' pins s6 σ H6 y' z' u' w' Q I6 r4 r6 q6))
def tLRange (te : TE) : TE := fun σ H Q => te σ H fun x H1 => ∃ n : Nat, x = .int (n : Int) ∧ n ≤ 1000 ∧ ∀ l, H1 l = none → Q (.ref l) (upd H1 l (.lst ((List.range n).map fun (i : Nat) => V.int (i : Int))))
theorem pe_list_range {e : Expr} {te : TE} {p1 p2 pos1 pos2 : Pos} (hc : X.calm = true) (hg1 : Gl X "list") (hm1 : X.mg "list" = none) (hg2 : Gl X "range") (hm2 : X.mg "range" = none) (he : PE X e te)
    (hs1 : starEach [.Call (.Name "range" p2) [e] [] pos2] X.env = [(false, eval (.Call (.Name "range" p2) [e] [] pos2) X.env)] := by rfl) (hs2 : starEach [e] X.env = [(false, eval e X.env)] := by rfl) :
    PE X (.Call (.Name "list" p1) [.Call (.Name "range" p2) [e] [] pos2] [] pos1) (tLRange te) := by
  intro pins s σ H Q I h
  refine Call_ (ld_blt I hg1 hm1 PyProof.Rows.boot_list (PyProof.Rows.callWith_type1 ?_ (by rw [hs1]; rfl) rfl))
  rw [hs1]
  show wpAny _ _ (spliced ((false, eval (.Call (.Name "range" p2) [e] [] pos2) X.env) :: [])) _ _ s
  refine Calls.spliced_cons ?_
  refine Call_ (ld_blt I hg2 hm2 PyProof.Rows.boot_range (PyProof.Rows.callWith_type1 (thn ((pa_cons he pa_nil hs2) pos2 pins s σ H (fun vs H1 => ∃ n : Nat, vs = [.int (n : Int)] ∧ n ≤ 1000 ∧ ∀ l, H1 l = none → Q (.ref l) (upd H1 l (.lst ((List.range n).map fun (i : Nat) => V.int (i : Int))))) I ?_) fun us s1 ⟨vs, H1, I1, r1, q1⟩ => ?_) (by rw [hs2]; rfl) rfl))
  · exact (show tCons te tNil σ H _ from (by
      show te σ H fun x H1 => ∃ n : Nat, [x] = [V.int (n : Int)] ∧ n ≤ 1000 ∧ ∀ l, H1 l = none → Q (.ref l) (upd H1 l (.lst ((List.range n).map fun (i : Nat) => V.int (i : Int))))
      have ef : (fun (x : V) (H1 : Hp) => ∃ n : Nat, [x] = [V.int (n : Int)] ∧ n ≤ 1000 ∧ ∀ l, H1 l = none → Q (.ref l) (upd H1 l (.lst ((List.range n).map fun (i : Nat) => V.int (i : Int))))) = fun x H1 => ∃ n : Nat, x = V.int (n : Int) ∧ n ≤ 1000 ∧ ∀ l, H1 l = none → Q (.ref l) (upd H1 l (.lst ((List.range n).map fun (i : Nat) => V.int (i : Int)))) := by
        funext x H1
        simp only [List.cons.injEq, and_true]
      rw [ef]; exact h))
  obtain ⟨n, rfl, hn, q⟩ := q1
  obtain ⟨u, rfl, t, rfl⟩ := vals1 r1
  refine call_range_1 ?_
  refine Calls.spliced_nil ?_
  have I2 : Inv X pins σ H1 { s1 with heap := s1.heap.push { cls := .type "range", data := .fields #[.int 0 s1.toks, .int (n : Int) t, .int 1 (s1.toks + 1)] }, toks := s1.toks + 1 + 1 } := I1.kept fun b o e => Heap.get?_push_of_some _ e
  have b1 : (-(2 ^ 62) : Int) ≤ (n : Int) ∧ (n : Int) < 2 ^ 62 := by
    have e : (2 ^ 62 : Int) = 4611686018427387904 := by decide
    rw [e]; omega
  have n24 : n ≤ 2 ^ 24 := by
    have : (2 : Nat) ^ 24 = 16777216 := by decide
    omega
  have hsz : Builtin.Range.rangeSize 0 (n : Int) 1 = ((n : Nat) : Int) := by rw [rangeSize_one]; split <;> omega
  refine call_list_range (n := n) (I.ok.hd hc) (IsRange.new ..) (small_one (by decide) (by decide) b1.1 b1.2) hsz n24 fun h' tk acc' c' hk hS hacc => ?_
  have f2 : FpOk X pins H1 (s1.heap.push { cls := .type "range", data := .fields #[.int 0 s1.toks, .int (n : Int) t, .int 1 (s1.toks + 1)] }).objs.size := I2.fpOk (Nat.le_refl _) (I2.hok.fresh (Nat.le_refl _))
  have I3 : Inv X pins σ H1 { s1 with heap := h', toks := tk } := I2.kept (t' := tk) hk
  have rv2 : Vals ((List.range n).map fun (i : Nat) => V.int (i : Int)) acc'.toList := by
    obtain ⟨hl, hv⟩ := hacc
    have key : ∀ (l : List Value) (k : Nat), (∀ (i : Nat) (v : Value), l[i]? = some v → ∃ t, v = Value.int ((k + i : Nat) : Int) t) → Vals ((List.range' k l.length).map fun (i : Nat) => V.int (i : Int)) l := by
      intro l
      induction l with
      | nil => intro k _; exact .nil
      | cons v l ih =>
        intro k hk
        rw [List.length_cons, List.range'_succ, List.map_cons]
        obtain ⟨t, rfl⟩ := hk 0 v rfl
        refine .cons ⟨t, rfl⟩ (ih (k + 1) fun i v hv => ?_)
        obtain ⟨t, e⟩ := hk (i + 1) v hv
        exact ⟨t, by rw [e]; congr 2; omega⟩
    have z := key acc'.toList 0 fun i v hv' => by
      have hv2 : acc'[i]? = some v := by simpa using hv'
      obtain ⟨t, e⟩ := hv i v hv2
      exact ⟨t, by rw [e]; congr 1; omega⟩
    rw [Array.length_toList, hl, ← List.range_eq_range'] at z
    exact z
  refine ⟨.ref _, _, I3.track f2 (show ObjOk X.prog X.w _ h' _ (.lst ((List.range n).map fun (i : Nat) => V.int (i : Int))) from ⟨by rw [List.length_map, List.length_range, sizeLine_eq]; omega, acc'.toList, c', rv2, by simpa using hS⟩), rfl, q _ f2.1⟩
def rJoin (K : PySem.W.Frag) : V → List V → Hp → VK → Prop := fun x vs H Q => ∃ z p ys, x = .str z ∧ vs = [.ref p] ∧ SqL K H p (ys.map V.str) ∧ (ys.map (·.length)).sum + ys.length * z.length ≤ 16777216 ∧ Q (.str (Txt.join z ys)) H
theorem strs_of : ∀ {ys : List Str} {us : List Value}, Vals (ys.map V.str) us → StrsAre us ys
  | [], _, .nil => .nil
  | y :: ys, _, .cons r t => by
    obtain ⟨k, rfl⟩ := r
    exact .cons y k (strs_of t)
theorem mt_join : MtR X "str.join" (rJoin X.K) := by
  intro pins s σ H x vs v us Q I rx rv h
  obtain ⟨z, p, ys, rfl, rfl, hq, hz, q⟩ := h
  obtain ⟨t, rfl⟩ := rx
  obtain ⟨u, rfl, ru⟩ := rv.one
  cases ru
  obtain ⟨its, r, pl, _⟩ := I.list hq
  exact join_list pl.isList (by simpa using strs_of r) hz fun t' k => ⟨.str (Txt.join z ys), H, I.tok _, ⟨_, rfl⟩, q⟩
theorem vals_strs : ∀ (l : List (Str × Tok)), Vals ((l.map (·.1)).map V.str) (strValues l)
  | [] => .nil
  | (y, t) :: l => .cons ⟨t, rfl⟩ (vals_strs l)
def rSplit : V → List V → Hp → VK → Prop := fun x vs H Q => ∃ z y, x = .str z ∧ vs = [.str y] ∧ (y.length == 0) = false ∧ z.length ≤ 1000000 ∧ ∀ p, H p = none → Q (.ref p) (upd H p (.lst ((Txt.split z y).map V.str)))
theorem split_len (z y : Str) : (Txt.split z y).length ≤ z.length + 2 := by
  unfold Txt.split
  split
  · simp
  · split
    · simp
    · rw [length_partsBetween]
      have := StrLaws.occ_length_le_len z y 0 z.length (z.length + 1)
      omega
theorem mt_split : MtR X "str.split" rSplit := by
  intro pins s σ H x vs v us Q I rx rv h
  obtain ⟨z, y, rfl, rfl, hy, hz, q⟩ := h
  obtain ⟨t, rfl⟩ := rx
  obtain ⟨u, rfl, t', rfl⟩ := rv.one
  have e24 := sizeLine_eq
  have hl : (PySem.Builtin.Str.partsBetween z (PySem.Builtin.Str.occurrences z y 0 z.length (z.length + 1)) y.length).length ≤ sizeLine := by
    rw [length_partsBetween]
    have := StrLaws.occ_length_le_len z y 0 z.length (z.length + 1)
    omega
  have f : FpOk X pins H s.heap.objs.size := I.fpOk (Nat.le_refl _) (I.hok.fresh (Nat.le_refl _))
  have sl := split_len z y
  have fin : ∀ (l : List (Str × Tok)) (tk : Nat), l.map (·.1) = Txt.split z y → EP X pins σ Q (.ref s.heap.objs.size) { s with heap := s.heap.push { cls := .type "list", data := .seq (strValues l).toArray }, toks := tk } := fun l tk ht =>
    ⟨.ref _, _, I.lnew (t' := tk) (ys := (Txt.split z y).map V.str) (by rw [← ht]; exact vals_strs l) (by rw [List.length_map]; omega), rfl, q _ f.1⟩
  cases h1 : (decide (z.length < y.length) || decide (PySem.Builtin.Str.strKind z < PySem.Builtin.Str.strKind y))
  · cases hf : (PySem.Builtin.Str.occurrences z y 0 z.length (z.length + 1)).isEmpty
    · refine call_meets PySem.F.slot_str_split (typeIs_str _ _ _) PySem.F.entry_str_split (PySem.F.args_str_split_2 _ _) (meets_str_split_sep z y t t' h1 hy hf (by omega) hl) ?_
      show wants _ _ _ { s with toks := _, heap := s.heap.push { cls := .type "list", data := .seq (strsFrom s.toks (PySem.Builtin.Str.partsBetween z (PySem.Builtin.Str.occurrences z y 0 z.length (z.length + 1)) y.length)).toArray } }
      rw [strsFrom_eq]
      exact fin (numbered s.toks _) _ ((numbered_texts _ _).trans ((if_neg (ne_true_of_eq_false h1)).trans (if_neg (ne_true_of_eq_false hf))).symm)
    · exact call_meets PySem.F.slot_str_split (typeIs_str _ _ _) PySem.F.entry_str_split (PySem.F.args_str_split_2 _ _) (meets_str_split_not_found z y t t' h1 hy hf) (fin [(z, t)] s.toks ((if_neg (ne_true_of_eq_false h1)).trans (if_pos hf)).symm)
  · exact call_meets PySem.F.slot_str_split (typeIs_str _ _ _) PySem.F.entry_str_split (PySem.F.args_str_split_2 _ _) (meets_str_split_cannot_occur z y t t' h1) (fin [(z, t)] s.toks (if_pos h1).symm)
def partV (z y : Str) : List V := match PySem.Builtin.Str.occurrences z y 0 z.length 1 with
  | i :: _ => [.str (PySem.Builtin.Str.strSub z 0 i), .str y, .str (PySem.Builtin.Str.strSub z (i + y.length) z.length)]
  | [] => [.str z, .str Str.empty, .str Str.empty]
def rPartition : V → List V → Hp → VK → Prop := fun x vs H Q => ∃ z y, x = .str z ∧ vs = [.str y] ∧ (y.length == 0) = false ∧ z.length ≤ sizeLine ∧ ∀ p, H p = none → Q (.ref p) (upd H p (.tup (partV z y)))
theorem mt_partition : MtR X "str.partition" rPartition := by
  intro pins s σ H x vs v us Q I rx rv h
  obtain ⟨z, y, rfl, rfl, hy, hz, q⟩ := h
  obtain ⟨t, rfl⟩ := rx
  obtain ⟨u, rfl, t', rfl⟩ := rv.one
  refine call_meets PySem.F.slot_str_partition (typeIs_str _ _ _) PySem.F.entry_str_partition (PySem.F.args_str_partition_2 _ _) (meets_str_partition z y t t' hy hz) ?_
  have f : H s.heap.objs.size = none := I.hok.fresh (Nat.le_refl _)
  have q' := q _ f
  unfold partV at q'
  have e3 : 3 ≤ sizeLine := by rw [sizeLine_eq]; decide
  revert q'
  cases PySem.Builtin.Str.occurrences z y 0 z.length 1 with
  | nil =>
    intro q'
    refine ⟨.ref s.heap.objs.size, _, I.laid (o := .tup [.str z, .str Str.empty, .str Str.empty]) (fun b ob q => Heap.get?_push_of_some _ q) (Nat.le_refl _) ?_, rfl, q'⟩
    exact ⟨e3, _, .cons ⟨_, rfl⟩ (.cons ⟨_, rfl⟩ (.cons ⟨_, rfl⟩ .nil)), IsTup.new _ _⟩
  | cons i r =>
    intro q'
    refine ⟨.ref s.heap.objs.size, _, I.laid (o := .tup [.str (PySem.Builtin.Str.strSub z 0 i), .str y, .str (PySem.Builtin.Str.strSub z (i + y.length) z.length)]) (fun b ob q => Heap.get?_push_of_some _ q) (Nat.le_refl _) ?_, rfl, q'⟩
    exact ⟨e3, _, .cons ⟨_, rfl⟩ (.cons ⟨_, rfl⟩ (.cons ⟨_, rfl⟩ .nil)), IsTup.new _ _⟩
def rIndex (K : PySem.W.Frag) : V → List V → Hp → VK → Prop := fun x vs H Q => ∃ p xs y j, x = .ref p ∧ vs = [y] ∧ SqL K H p xs ∧ flatV y = true ∧ xs.all flatV = true ∧ (∃ z, xs[j]? = some z ∧ eqV z y = true) ∧ (∀ m z, m < j → xs[m]? = some z → eqV z y = false) ∧ Q (.int (j : Nat)) H
theorem mt_index : MtR X "list.index" (rIndex X.K) := by
  intro pins s σ H x vs v us Q I rx rv h
  obtain ⟨p, xs, y, j, rfl, rfl, hq, fy, fs, ⟨z, hz, ez⟩, hno, q⟩ := h
  cases rx
  obtain ⟨u, rfl, ru⟩ := rv.one
  obtain ⟨its, r, pl, hsz⟩ := I.list hq
  obtain ⟨⟨cls, dd, data, sl⟩, ho, hc, n, hd⟩ := pl.isList
  simp only at hc hd
  subst hc hd
  have hl := r.length
  have hjx : j < xs.length := (List.getElem?_eq_some_iff.mp hz).1
  have e24 := sizeLine_eq
  have at' : ∀ (m : Nat) (hm : m < its.toArray.size) w, xs[m]? = some w → eqU y its.toArray[m] = eqV w y := fun m hm w hw => by
    obtain ⟨u', eu, ru'⟩ := r.get hw
    have hm' : m < its.length := by simpa using hm
    have e1 : its.toArray[m] = u' := by
      have : its[m]? = some its[m] := List.getElem?_eq_getElem hm'
      rw [this] at eu; simpa using Option.some.inj eu
    rw [e1]
    have fw : flatV w = true := List.all_eq_true.mp fs w (List.mem_of_getElem? hw)
    exact eqU_of ru' fw
  refine call_meets PySem.F.slot_list_index ⟨_, ho, rfl⟩ PySem.F.entry_list_index (PySem.F.args_list_index_2 _ _)
    (SeqAt.list_indexAt p its.toArray n dd sl u (eqU y) j (by simp; omega) (by have : (2 ^ 63 : Int) = 9223372036854775808 := by decide
                                                                               omega) ?_ ?_) ⟨ho, fun w hw => mem_eqAt ru fy r fs w (by simpa using hw), ⟨.int j, H, I.tok _, ⟨_, rfl⟩, q⟩⟩
  · rw [at' j (by simp; omega) z hz]; exact ez
  · intro m hm hlt
    have hmx : m < xs.length := by simp at hm; omega
    rw [at' m hm xs[m] (List.getElem?_eq_getElem hmx)]
    exact hno m _ hlt (List.getElem?_eq_getElem hmx)
abbrev TJ := Str → St → Hp → VK → Prop
def PJ (X : Cx) (es : List Expr) (t : TJ) : Prop := ∀ (out : Str) (pins : List (Addr × Obj)) (s : Shared) (σ : St) (H : Hp) (Q : VK), Inv X pins σ H s → t out σ H Q → wpAny (model X.prog X.w) X.A (joinParts out (evalEach es X.env)) (EP X pins σ Q) X.xe s
def FmtV : V → Str → Prop
  | .int i, y => y = toString i ∧ i.natAbs.log2 < 1920
  | .non, y => y = ("None" : Str)
  | _, _ => False
theorem pj_nil : PJ X [] (fun out _ H Q => out.length ≤ sizeLine ∧ Q (.str out) H) := fun out pins s σ H Q I h => joinParts_nil ⟨.str out, H, I.tok _, ⟨_, rfl⟩, h.2⟩ h.1
theorem pj_con {x : Str} {j : Nat} {es : List Expr} {t : TJ} (hr : PJ X es t) : PJ X (.Constant (.str x) j pos :: es) (fun out σ H Q => (out ++ x).length ≤ sizeLine ∧ t (out ++ x) σ H Q) := fun out pins s σ H Q I h =>
  joinParts_cons (Calls.Constant_str ⟨h.1, hr _ pins _ σ H Q (I.tok _) h.2⟩)
theorem pj_fmt {e : Expr} {te : TE} {es : List Expr} {t : TJ} (he : PE X e te) (hr : PJ X es t) : PJ X (.FormattedValue e (-1) none pos :: es) (fun out σ H Q => te σ H fun x H1 => ∃ y : Str, FmtV x y ∧ (out ++ y).length ≤ sizeLine ∧ t (out ++ y) σ H1 Q) := by
  intro out pins s σ H Q I h
  refine joinParts_cons (FormattedValue_plain (thn (he pins s σ H _ I h) fun v s1 ⟨x, H1, I1, r1, y, hf, hz, q⟩ => ?_))
  cases x with
  | int i =>
    obtain ⟨tk, rfl⟩ := r1
    obtain ⟨rfl, hl⟩ := hf
    exact formatField_int_small hl ⟨hz, hr _ pins _ σ H1 Q (I1.tok _) q⟩
  | non =>
    cases r1
    obtain rfl : y = ("None" : Str) := hf
    exact wpAny_formatField_none ⟨hz, hr _ pins _ σ H1 Q (I1.tok _) q⟩
  | _ => exact False.elim hf
theorem pe_fstr {e1 e2 : Expr} {es : List Expr} {t : TJ} (h : PJ X (e1 :: e2 :: es) t) : PE X (.JoinedStr (e1 :: e2 :: es) pos) (t Str.empty) := fun pins s σ H Q I hw => JoinedStr_many (h Str.empty pins s σ H Q I hw)
theorem ps_try_nox {body : List Stmt} {h0 : ExceptHandler} {hs : List ExceptHandler} {t : TS} (hb : PSs X.nox body t) : PS X (.Try body (h0 :: hs) [] [] pos) t := by
  intro pins s σ H D I h
  refine wpAny_Try_except (wpAny_mono (hb pins s σ H D (I.wish _) h) (fun f s1 q => ?_) fun _ _ z => False.elim z)
  have q' := q.unwish
  cases f with
  | next => exact wpAny_execs_nil q'
  | brk => exact q'
  | cont => exact q'
  | ret u => exact q'
def lexOp (f : Int → Int → Bool) (z : Bool) : List Int → List Int → Bool
  | x :: xs, y :: ys => if x = y then lexOp f z xs ys else f x y
  | _, _ => z
theorem lexOp_cons (f : Int → Int → Bool) (z : Bool) (x y : Int) (xs ys : List Int) : lexOp f z (x :: xs) (y :: ys) = if x = y then lexOp f z xs ys else f x y := rfl
end
def rTupO (K : PySem.W.Frag) (f : Int → Int → Bool) (z : Bool) : R2 := fun x y H Q => ∃ a b ns ms, x = .ref a ∧ y = .ref b ∧ SqT K H a (ns.map V.int) ∧ SqT K H b (ms.map V.int) ∧ ns.length = ms.length ∧ Q (.bl (lexOp f z ns ms)) H
section
open PySem.SeqAt
open PySem.AutoSeq1 (wpAny_loadPart')
open PySem.MeetsSeq PySem.MeetsSeq2 PySem.MeetsSeq3
theorem tuple_le_same (l b : Addr) (items items2 : Array Value) (n n2 : Nat) (dd dd2 : Option Addr) (sl sl2 : Array (Option Value)) (ns ms : List Int) (hi : IntsAre items.toList ns) (hj : IntsAre items2.toList ms) (hs : ns.length = ms.length) :
    Meets (Builtin.«tuple.__le__» ⟨[.ref l, .ref b], []⟩)
      (fun _ R s => s.heap.get? l = some { cls := .type "tuple", dict := dd, data := .seq items n, slots := sl } ∧ s.heap.get? b = some { cls := .type "tuple", dict := dd2, data := .seq items2 n2, slots := sl2 } ∧
        R (.ok (.ret (.bool (lexOp (fun i j => decide (i ≤ j)) true ns ms)))) s) :=
  .of_wp fun prog w A R s h => by
    obtain ⟨hp, g, d, tk, os⟩ := s; obtain ⟨hl, hb, h⟩ := h
    have f2 := AutoSeq1.sub_tuple_tuple
    have z1 : items.size = ns.length := by rw [← hi.length]; simp
    have z2 : items2.size = ms.length := by rw [← hj.length]; simp
    have z3 : items.size = items2.size := by omega
    wp_walk using wpAny_loadPart' hl, wpAny_loadPart' hb, wpAny_forIn_list _ (fun rest b s' => b.1 = none ∧ s' = ⟨hp, g, d, tk, os⟩ ∧ ∃ (vs ws : List Value) (ns' ms' : List Int), rest = vs.zip ws ∧
      IntsAre vs ns' ∧ IntsAre ws ms' ∧ ns'.length = ms'.length ∧ R (.ok (.ret (.bool (lexOp (fun i j => decide (i ≤ j)) true ns' ms')))) ⟨hp, g, d, tk, os⟩) _
    case turn =>
      rintro ⟨y, x⟩ rest b s' ⟨hb', rfl, vs, ws, ns', ms', hz, hvi, hwi, hlen, hR⟩
      cases hvi with
      | nil => rw [List.zip_nil_left] at hz; cases hz
      | cons a t hvi' =>
        cases hwi with
        | nil => rw [List.zip_nil_right] at hz; cases hz
        | cons c u hwi' =>
          rw [List.zip_cons_cons] at hz
          injection hz with hyx hrest
          injection hyx with hy hx
          subst hy hx
          rw [lexOp_cons] at hR
          simp only [List.length_cons] at hlen
          obtain ⟨e, he, hiff⟩ := HT.eqAt_int A.in1 ⟨hp, g, d, tk, os⟩ a t c u
          refine wpAny_bind (he prog w _ _ ?_)
          cases e with
          | true =>
            rw [if_pos (hiff.mp rfl)] at hR
            wp_walk
            exact ⟨rfl, rfl, _, _, _, _, hrest, hvi', hwi', by omega, hR⟩
          | false =>
            rw [if_neg (fun q => absurd (hiff.mpr q) Bool.false_ne_true)] at hR
            have hri : ∀ (E : Value → Shared → Prop) (Q : Value → Shared → Prop), Q (.bool ((fun i j => decide (i ≤ j)) a c)) ⟨hp, g, d, tk, os⟩ → wpAny (model prog w) A.in1 (richCompare .LtE (.int a t) (.int c u)) Q E ⟨hp, g, d, tk, os⟩ :=
              fun E Q h => (PyProof.Rows.le_int h : wpAny (model prog w) A.in1 (compareOp .LtE (.int a t) (.int c u)) Q E ⟨hp, g, d, tk, os⟩)
            wp_walk using hri
            exact ⟨_, rfl, by simpa using hR⟩
    case fin =>
      rintro ⟨b1, b2⟩ s' ⟨hb', rfl, vs, ws, ns', ms', hz, hvi, hwi, hlen, hR⟩
      simp only at hb'
      subst hb'
      have hv : lexOp (fun i j => decide (i ≤ j)) true ns' ms' = true := by
        cases hvi with
        | nil => cases hwi <;> rfl
        | cons a t hv =>
          cases hwi with
          | nil => rfl
          | cons c u hw =>
            rw [List.zip_cons_cons] at hz
            cases hz
      rw [hv] at hR
      wp_walk
      exact ⟨_, rfl, by simpa [Builtin.Tuple.tupleCompareSizes, z3] using hR⟩
    case h =>
      exact ⟨rfl, rfl, items.toList, items2.toList, ns, ms, rfl, hi, hj, hs, h⟩
end
section
variable {X : Cx}
theorem op_leT (hu : X.A.units < cLine) : OpR X (compareOp .LtE) (rTupO X.K (fun i j => decide (i ≤ j)) true) := by
  intro pins s σ H x y v u Q I rx ry h
  obtain ⟨a, b, ns, ms, rfl, rfl, ha, hb, hs, q⟩ := h
  cases rx
  cases ry
  obtain ⟨its, r1, p1, _⟩ := I.tuple ha
  obtain ⟨its2, r2, p2, _⟩ := I.tuple hb
  have i1 : IntsAre its.toArray.toList ns := intsAre_of r1
  have i2 : IntsAre its2.toArray.toList ms := intsAre_of r2
  obtain ⟨⟨cls, dd, data, sl⟩, ho, hc, n, hd⟩ := p1
  obtain ⟨⟨cls2, dd2, data2, sl2⟩, ho2, hc2, n2, hd2⟩ := p2
  simp only at hc hd hc2 hd2
  subst hc hd hc2 hd2
  exact richCompare_meets_room (op := .LtE) ⟨_, ho, rfl⟩ ⟨_, ho2, rfl⟩ PySem.F.slot_tuple_le PySem.F.entry_tuple_le (PySem.F.args_tuple_le_2 _ _) (tuple_le_same a b its.toArray its2.toArray n n2 dd dd2 sl sl2 ns ms i1 i2 hs)
    ⟨ho, ho2, ⟨(fun x => nomatch x), ⟨.bl _, H, I, rfl, q⟩⟩⟩ hu
end
section
open PySem.SeqAt
open PySem.AutoSeq1 (wpAny_loadPart')
open PySem.MeetsSeq PySem.MeetsSeq2 PySem.MeetsSeq3
theorem tuple_gt_same (l b : Addr) (items items2 : Array Value) (n n2 : Nat) (dd dd2 : Option Addr) (sl sl2 : Array (Option Value)) (ns ms : List Int) (hi : IntsAre items.toList ns) (hj : IntsAre items2.toList ms) (hs : ns.length = ms.length) :
    Meets (Builtin.«tuple.__gt__» ⟨[.ref l, .ref b], []⟩)
      (fun _ R s => s.heap.get? l = some { cls := .type "tuple", dict := dd, data := .seq items n, slots := sl } ∧ s.heap.get? b = some { cls := .type "tuple", dict := dd2, data := .seq items2 n2, slots := sl2 } ∧
        R (.ok (.ret (.bool (lexOp (fun i j => decide (j < i)) false ns ms)))) s) :=
  .of_wp fun prog w A R s h => by
    obtain ⟨hp, g, d, tk, os⟩ := s; obtain ⟨hl, hb, h⟩ := h
    have f2 := AutoSeq1.sub_tuple_tuple
    have z1 : items.size = ns.length := by rw [← hi.length]; simp
    have z2 : items2.size = ms.length := by rw [← hj.length]; simp
    have z3 : items.size = items2.size := by omega
    wp_walk using wpAny_loadPart' hl, wpAny_loadPart' hb, wpAny_forIn_list _ (fun rest b s' => b.1 = none ∧ s' = ⟨hp, g, d, tk, os⟩ ∧ ∃ (vs ws : List Value) (ns' ms' : List Int), rest = vs.zip ws ∧
      IntsAre vs ns' ∧ IntsAre ws ms' ∧ ns'.length = ms'.length ∧ R (.ok (.ret (.bool (lexOp (fun i j => decide (j < i)) false ns' ms')))) ⟨hp, g, d, tk, os⟩) _
    case turn =>
      rintro ⟨y, x⟩ rest b s' ⟨hb', rfl, vs, ws, ns', ms', hz, hvi, hwi, hlen, hR⟩
      cases hvi with
      | nil => rw [List.zip_nil_left] at hz; cases hz
      | cons a t hvi' =>
        cases hwi with
        | nil => rw [List.zip_nil_right] at hz; cases hz
        | cons c u hwi' =>
          rw [List.zip_cons_cons] at hz
          injection hz with hyx hrest
          injection hyx with hy hx
          subst hy hx
          rw [lexOp_cons] at hR
          simp only [List.length_cons] at hlen
          obtain ⟨e, he, hiff⟩ := HT.eqAt_int A.in1 ⟨hp, g, d, tk, os⟩ a t c u
          refine wpAny_bind (he prog w _ _ ?_)
          cases e with
          | true =>
            rw [if_pos (hiff.mp rfl)] at hR
            wp_walk
            exact ⟨rfl, rfl, _, _, _, _, hrest, hvi', hwi', by omega, hR⟩
          | false =>
            rw [if_neg (fun q => absurd (hiff.mpr q) Bool.false_ne_true)] at hR
            have hri : ∀ (E : Value → Shared → Prop) (Q : Value → Shared → Prop), Q (.bool ((fun i j => decide (j < i)) a c)) ⟨hp, g, d, tk, os⟩ → wpAny (model prog w) A.in1 (richCompare .Gt (.int a t) (.int c u)) Q E ⟨hp, g, d, tk, os⟩ :=
              fun E Q h => (PyProof.Rows.gt_int h : wpAny (model prog w) A.in1 (compareOp .Gt (.int a t) (.int c u)) Q E ⟨hp, g, d, tk, os⟩)
            wp_walk using hri
            exact ⟨_, rfl, by simpa using hR⟩
    case fin =>
      rintro ⟨b1, b2⟩ s' ⟨hb', rfl, vs, ws, ns', ms', hz, hvi, hwi, hlen, hR⟩
      simp only at hb'
      subst hb'
      have hv : lexOp (fun i j => decide (j < i)) false ns' ms' = false := by
        cases hvi with
        | nil => cases hwi <;> rfl
        | cons a t hv =>
          cases hwi with
          | nil => rfl
          | cons c u hw =>
            rw [List.zip_cons_cons] at hz
            cases hz
      rw [hv] at hR
      wp_walk
      exact ⟨_, rfl, by simpa [Builtin.Tuple.tupleCompareSizes, z3] using hR⟩
    case h =>
      exact ⟨rfl, rfl, items.toList, items2.toList, ns, ms, rfl, hi, hj, hs, h⟩
end
section
variable {X : Cx}
theorem op_gtT (hu : X.A.units < cLine) : OpR X (compareOp .Gt) (rTupO X.K (fun i j => decide (j < i)) false) := by
  intro pins s σ H x y v u Q I rx ry h
  obtain ⟨a, b, ns, ms, rfl, rfl, ha, hb, hs, q⟩ := h
  cases rx
  cases ry
  obtain ⟨its, r1, p1, _⟩ := I.tuple ha
  obtain ⟨its2, r2, p2, _⟩ := I.tuple hb
  have i1 : IntsAre its.toArray.toList ns := intsAre_of r1
  have i2 : IntsAre its2.toArray.toList ms := intsAre_of r2
  obtain ⟨⟨cls, dd, data, sl⟩, ho, hc, n, hd⟩ := p1
  obtain ⟨⟨cls2, dd2, data2, sl2⟩, ho2, hc2, n2, hd2⟩ := p2
  simp only at hc hd hc2 hd2
  subst hc hd hc2 hd2
  exact richCompare_meets_room (op := .Gt) ⟨_, ho, rfl⟩ ⟨_, ho2, rfl⟩ PySem.F.slot_tuple_gt PySem.F.entry_tuple_gt (PySem.F.args_tuple_gt_2 _ _) (tuple_gt_same a b its.toArray its2.toArray n n2 dd dd2 sl sl2 ns ms i1 i2 hs)
    ⟨ho, ho2, ⟨(fun x => nomatch x), ⟨.bl _, H, I, rfl, q⟩⟩⟩ hu
end
section
open PySem.SeqAt
open PySem.AutoSeq1 (wpAny_loadPart')
open PySem.MeetsSeq PySem.MeetsSeq2 PySem.MeetsSeq3
theorem tuple_ge_same (l b : Addr) (items items2 : Array Value) (n n2 : Nat) (dd dd2 : Option Addr) (sl sl2 : Array (Option Value)) (ns ms : List Int) (hi : IntsAre items.toList ns) (hj : IntsAre items2.toList ms) (hs : ns.length = ms.length) :
    Meets (Builtin.«tuple.__ge__» ⟨[.ref l, .ref b], []⟩)
      (fun _ R s => s.heap.get? l = some { cls := .type "tuple", dict := dd, data := .seq items n, slots := sl } ∧ s.heap.get? b = some { cls := .type "tuple", dict := dd2, data := .seq items2 n2, slots := sl2 } ∧
        R (.ok (.ret (.bool (lexOp (fun i j => decide (j ≤ i)) true ns ms)))) s) :=
  .of_wp fun prog w A R s h => by
    obtain ⟨hp, g, d, tk, os⟩ := s; obtain ⟨hl, hb, h⟩ := h
    have f2 := AutoSeq1.sub_tuple_tuple
    have z1 : items.size = ns.length := by rw [← hi.length]; simp
    have z2 : items2.size = ms.length := by rw [← hj.length]; simp
    have z3 : items.size = items2.size := by omega
    wp_walk using wpAny_loadPart' hl, wpAny_loadPart' hb, wpAny_forIn_list _ (fun rest b s' => b.1 = none ∧ s' = ⟨hp, g, d, tk, os⟩ ∧ ∃ (vs ws : List Value) (ns' ms' : List Int), rest = vs.zip ws ∧
      IntsAre vs ns' ∧ IntsAre ws ms' ∧ ns'.length = ms'.length ∧ R (.ok (.ret (.bool (lexOp (fun i j => decide (j ≤ i)) true ns' ms')))) ⟨hp, g, d, tk, os⟩) _
    case turn =>
      rintro ⟨y, x⟩ rest b s' ⟨hb', rfl, vs, ws, ns', ms', hz, hvi, hwi, hlen, hR⟩
      cases hvi with
      | nil => rw [List.zip_nil_left] at hz; cases hz
      | cons a t hvi' =>
        cases hwi with
        | nil => rw [List.zip_nil_right] at hz; cases hz
        | cons c u hwi' =>
          rw [List.zip_cons_cons] at hz
          injection hz with hyx hrest
          injection hyx with hy hx
          subst hy hx
          rw [lexOp_cons] at hR
          simp only [List.length_cons] at hlen
          obtain ⟨e, he, hiff⟩ := HT.eqAt_int A.in1 ⟨hp, g, d, tk, os⟩ a t c u
          refine wpAny_bind (he prog w _ _ ?_)
          cases e with
          | true =>
            rw [if_pos (hiff.mp rfl)] at hR
            wp_walk
            exact ⟨rfl, rfl, _, _, _, _, hrest, hvi', hwi', by omega, hR⟩
          | false =>
            rw [if_neg (fun q => absurd (hiff.mpr q) Bool.false_ne_true)] at hR
            have hri : ∀ (E : Value → Shared → Prop) (Q : Value → Shared → Prop), Q (.bool ((fun i j => decide (j ≤ i)) a c)) ⟨hp, g, d, tk, os⟩ → wpAny (model prog w) A.in1 (richCompare .GtE (.int a t) (.int c u)) Q E ⟨hp, g, d, tk, os⟩ :=
              fun E Q h => (PyProof.Rows.ge_int h : wpAny (model prog w) A.in1 (compareOp .GtE (.int a t) (.int c u)) Q E ⟨hp, g, d, tk, os⟩)
            wp_walk using hri
            exact ⟨_, rfl, by simpa using hR⟩
    case fin =>
      rintro ⟨b1, b2⟩ s' ⟨hb', rfl, vs, ws, ns', ms', hz, hvi, hwi, hlen, hR⟩
      simp only at hb'
      subst hb'
      have hv : lexOp (fun i j => decide (j ≤ i)) true ns' ms' = true := by
        cases hvi with
        | nil => cases hwi <;> rfl
        | cons a t hv =>
          cases hwi with
          | nil => rfl
          | cons c u hw =>
            rw [List.zip_cons_cons] at hz
            cases hz
      rw [hv] at hR
      wp_walk
      exact ⟨_, rfl, by simpa [Builtin.Tuple.tupleCompareSizes, z3] using hR⟩
    case h =>
      exact ⟨rfl, rfl, items.toList, items2.toList, ns, ms, rfl, hi, hj, hs, h⟩
end
section
variable {X : Cx}
theorem op_geT (hu : X.A.units < cLine) : OpR X (compareOp .GtE) (rTupO X.K (fun i j => decide (j ≤ i)) true) := by
  intro pins s σ H x y v u Q I rx ry h
  obtain ⟨a, b, ns, ms, rfl, rfl, ha, hb, hs, q⟩ := h
  cases rx
  cases ry
  obtain ⟨its, r1, p1, _⟩ := I.tuple ha
  obtain ⟨its2, r2, p2, _⟩ := I.tuple hb
  have i1 : IntsAre its.toArray.toList ns := intsAre_of r1
  have i2 : IntsAre its2.toArray.toList ms := intsAre_of r2
  obtain ⟨⟨cls, dd, data, sl⟩, ho, hc, n, hd⟩ := p1
  obtain ⟨⟨cls2, dd2, data2, sl2⟩, ho2, hc2, n2, hd2⟩ := p2
  simp only at hc hd hc2 hd2
  subst hc hd hc2 hd2
  exact richCompare_meets_room (op := .GtE) ⟨_, ho, rfl⟩ ⟨_, ho2, rfl⟩ PySem.F.slot_tuple_ge PySem.F.entry_tuple_ge (PySem.F.args_tuple_ge_2 _ _) (tuple_ge_same a b its.toArray its2.toArray n n2 dd dd2 sl sl2 ns ms i1 i2 hs)
    ⟨ho, ho2, ⟨(fun x => nomatch x), ⟨.bl _, H, I, rfl, q⟩⟩⟩ hu
end
end L2
namespace L2
open PySem PySem.Spec PyProof.Rows
inductive Kn where
  | non | bl | int | str | lst | tup
  deriving DecidableEq
def Kn.nm : Kn → String
  | .non => "NoneType"
  | .bl => "bool"
  | .int => "int"
  | .str => "str"
  | .lst => "list"
  | .tup => "tuple"
def isB : Kn → Kn → Bool
  | .bl, .int => true
  | .non, .non => true
  | .bl, .bl => true
  | .int, .int => true
  | .str, .str => true
  | .lst, .lst => true
  | .tup, .tup => true
  | _, _ => false
inductive Kd (K : PySem.W.Frag) (H : Hp) : V → Kn → Prop where
  | non : Kd K H .non .non
  | bl (x : Bool) : Kd K H (.bl x) .bl
  | int (i : Int) : Kd K H (.int i) .int
  | str (x : Str) : Kd K H (.str x) .str
  | lst {a : Addr} {xs : List V} (e : SqL K H a xs) : Kd K H (.ref a) .lst
  | tup {a : Addr} {xs : List V} (e : SqT K H a xs) : Kd K H (.ref a) .tup
theorem kit_ok (K : PySem.W.Frag) (k t : Kn) : PySem.W.kitOne K (.type k.nm) (.type t.nm) = some (isB k t) := by
  cases k <;> cases t <;> first | rfl | kernel_rfl
section
variable {X : Cx}
theorem call_isK : CallR X (.builtin "isinstance") (fun xs H Q => ∃ x t k, xs = [x, .ty (Kn.nm t)] ∧ Kd X.K H x k ∧ Q (.bl (isB k t)) H) := by
  intro pins s σ H xs us Q I r h
  obtain ⟨x, t, k, rfl, kd, q⟩ := h
  obtain ⟨u, w', rfl, rx, ry⟩ := vals2 r
  obtain rfl : w' = Value.type t.nm := ry
  have e := kit_ok X.K k t
  have fin : ∀ tk, EP X pins σ Q (.bool (isB k t)) { s with toks := tk } := fun tk => ⟨.bl _, H, I.tok tk, rfl, q⟩
  cases kd with
  | non => exact isinst_ok I rx .non e fin
  | bl y => exact isinst_ok I rx (.bl y) e fin
  | int i => exact isinst_ok I rx (.int i) e fin
  | str y => exact isinst_ok I rx (.str y) e fin
  | @lst a xs ea =>
    cases (show u = Value.ref a from rx)
    obtain ⟨its, _, ⟨o, n, h1, h2, _⟩, _⟩ := I.list ea
    exact PySem.W.kia_one PySem.W.kitx_list I.kIn ⟨o, h1, h2⟩ e (fun z => nomatch z) fin
  | @tup a xs ea =>
    cases (show u = Value.ref a from rx)
    obtain ⟨its, _, ⟨o, h1, h2, _⟩, _⟩ := I.tuple ea
    exact PySem.W.kia_one PySem.W.kitx_tuple I.kIn ⟨o, h1, h2⟩ e (fun z => nomatch z) fin
end
theorem Kd.same {K : PySem.W.Frag} {H H' : Hp} {x : V} {k : Kn} (e : Same H H') (h : Kd K H x k) : Kd K H' x k := by
  cases h with
  | non => exact .non
  | bl y => exact .bl y
  | int i => exact .int i
  | str y => exact .str y
  | lst q => exact .lst (e.seq q)
  | @tup a xs q =>
    refine .tup (xs := xs) ?_
    rcases q with (q | ⟨o, q⟩) | q
    · exact .inl (.inl (e _ _ q))
    · exact .inl (.inr ⟨o, e _ _ q⟩)
    · exact .inr q
theorem Same.put {H H' : Hp} {p : Addr} (e : Same H H') (h : H p = none) (o : HO) : Same H (upd H' p o) := fun b u q => by rw [upd_ne (ne_of_none q h)]; exact e b u q
theorem log_small {i : Int} (h0 : 0 ≤ i) (h1 : i ≤ 1000) : i.natAbs.log2 < 1920 := by
  have := Nat.log2_le_self i.natAbs
  omega
theorem one_line : 1 ≤ sizeLine := by rw [sizeLine_eq]; decide
theorem eqv_same {K : PySem.W.Frag} {H : Hp} {a b : Addr} {xs : List V} (h1 : SqL K H a xs) (h2 : SqL K H b xs) (hp : ∀ z ∈ xs, plainV z = true) : SqE K H (Eqv K H 8) a b :=
  ⟨_, _, .inl ⟨h1, h2⟩, rfl, fun _ _ _ e1 e2 => .inl ⟨by rw [e1] at e2; exact Option.some.inj e2, hp _ (List.mem_of_getElem? e1)⟩⟩
theorem eqv_hd {K : PySem.W.Frag} {H : Hp} {t l t2 l2 : Addr} {n : Int} {as : List Addr} (h1 : SqT K H t [.int n, .ref l]) (h2 : SqL K H l (as.map V.ref)) (h3 : SqT K H t2 [.int n, .ref l2]) (h4 : SqL K H l2 (as.map V.ref)) : SqE K H (Eqv K H 8) t2 t := by
  refine ⟨_, _, .inr ⟨h3, h1⟩, rfl, fun i x y e1 e2 => ?_⟩
  match i, e1, e2 with
  | 0, e1, e2 =>
    simp at e1 e2
    subst e1 e2
    exact .inl ⟨rfl, rfl⟩
  | 1, e1, e2 =>
    simp at e1 e2
    subst e1 e2
    refine .inr ⟨l2, l, rfl, rfl, _, _, .inl ⟨h4, h2⟩, rfl, fun j x y e1 e2 => .inl ⟨?_, ?_⟩⟩
    · rw [e1] at e2; exact Option.some.inj e2
    · rw [List.getElem?_map] at e1
      cases q : as[j]? with
      | none => rw [q] at e1; cases e1
      | some b => rw [q] at e1; obtain rfl : V.ref b = x := Option.some.inj e1; rfl
  | i + 2, e1, e2 => simp at e1
end L2
namespace HG
open PySem PySem.Builtin PySem.Builtin.Str
def cs (x : Str) : List Nat := x.cps.toList
theorem cs_app (a b : Str) : cs (a ++ b) = cs a ++ cs b := by unfold cs; rw [Str.cps_append, Array.toList_append]
theorem cs_inj {a b : Str} (h : cs a = cs b) : a = b := Str.ext' (Array.toList_inj.mp h)
theorem cs_len (a : Str) : (cs a).length = a.length := by unfold cs; simp [Str.length]
def num (m : Nat) : Str := toString (m : Int)
theorem num_free : ∀ m, m < 41 → (32 ∉ cs (num m) ∧ 45 ∉ cs (num m)) ∧ (num m).length ≤ 2 := by decide +kernel
theorem num_inj : ∀ m, m < 41 → ∀ j, j < 41 → num m = num j → m = j := by decide +kernel
def blank : Str := " "
def dash : Str := "-"
theorem cs_blank : cs blank = [32] := by decide +kernel
theorem cs_dash : cs dash = [45] := by decide +kernel
theorem blank_one : blank = ⟨#[32]⟩ := by decide +kernel
theorem dash_one : dash = ⟨#[45]⟩ := by decide +kernel
def word (k : Nat × Nat) : Str := num k.1 ++ dash ++ num k.2
def row (n : Nat) (ks : List (Nat × Nat)) : Str := ks.foldl (fun d k => d ++ blank ++ num k.1 ++ dash ++ num k.2) (num n)
theorem row_eq (ks : List (Nat × Nat)) : ∀ d : Str, ks.foldl (fun d k => d ++ blank ++ num k.1 ++ dash ++ num k.2) d = Str.join blank (d :: ks.map word) := by
  induction ks with
  | nil => intro d; rfl
  | cons k ks ih =>
    intro d
    rw [List.foldl_cons, ih, List.map_cons]
    show Str.join blank ((d ++ blank ++ num k.1 ++ dash ++ num k.2) :: ks.map word) = d ++ blank ++ Str.join blank (word k :: ks.map word)
    cases ks with
    | nil =>
      show d ++ blank ++ num k.1 ++ dash ++ num k.2 = d ++ blank ++ (num k.1 ++ dash ++ num k.2)
      simp only [Str.append_assoc]
    | cons j ks =>
      rw [List.map_cons]
      show d ++ blank ++ num k.1 ++ dash ++ num k.2 ++ blank ++ Str.join blank (word j :: ks.map word) = d ++ blank ++ (word k ++ blank ++ Str.join blank (word j :: ks.map word))
      unfold word
      simp only [Str.append_assoc]
theorem row_join (n : Nat) (ks : List (Nat × Nat)) : Txt.join blank (num n :: ks.map word) = row n ks := by
  show Builtin.Str.glued _ _ = _
  rw [StrLaws.glued_eq_join]
  exact (row_eq ks (num n)).symm
theorem cut_first {c : Nat} : ∀ {x y r s : List Nat}, c ∉ x → c ∉ y → x ++ c :: r = y ++ c :: s → x = y ∧ r = s
  | [], [], _, _, _, _, e => ⟨rfl, by simpa using e⟩
  | [], b :: y, _, _, _, hy, e => by
    exfalso
    have : c = b := by simpa using (List.cons.inj e).1
    exact hy (this ▸ List.mem_cons_self)
  | a :: x, [], _, _, hx, _, e => by
    exfalso
    have : a = c := by simpa using (List.cons.inj e).1
    exact hx (this ▸ List.mem_cons_self)
  | a :: x, b :: y, r, s, hx, hy, e => by
    have e1 := (List.cons.inj e).1
    have e2 := (List.cons.inj e).2
    obtain ⟨h1, h2⟩ := cut_first (fun z => hx (List.mem_cons_of_mem _ z)) (fun z => hy (List.mem_cons_of_mem _ z)) e2
    exact ⟨by rw [e1, h1], h2⟩
theorem join_cons2 (sep x y : Str) (r : List Str) : Str.join sep (x :: y :: r) = x ++ sep ++ Str.join sep (y :: r) := rfl
theorem join_inj : ∀ {l m : List Str}, l ≠ [] → m ≠ [] → (∀ x ∈ l, 32 ∉ cs x) → (∀ x ∈ m, 32 ∉ cs x) → Str.join blank l = Str.join blank m → l = m
  | [], _, h, _, _, _, _ => absurd rfl h
  | _ :: _, [], _, h, _, _, _ => absurd rfl h
  | [x], [y], _, _, _, _, e => by
    have e' : x = y := e
    rw [e']
  | [x], y :: z :: m, _, _, hl, _, e => by
    exfalso
    have e2 := congrArg cs e
    rw [join_cons2, cs_app, cs_app, cs_blank] at e2
    have : 32 ∈ cs x := by
      have e3 : cs x = cs y ++ [32] ++ cs (Str.join blank (z :: m)) := e2
      rw [e3]; simp
    exact hl x List.mem_cons_self this
  | x :: z :: l, [y], _, _, _, hm, e => by
    exfalso
    have e2 := congrArg cs e
    rw [join_cons2, cs_app, cs_app, cs_blank] at e2
    have : 32 ∈ cs y := by
      have e3 : cs x ++ [32] ++ cs (Str.join blank (z :: l)) = cs y := e2
      rw [← e3]; simp
    exact hm y List.mem_cons_self this
  | x :: z :: l, y :: u :: m, _, _, hl, hm, e => by
    have e2 := congrArg cs e
    rw [join_cons2, join_cons2, cs_app, cs_app, cs_app, cs_app, cs_blank, List.append_assoc, List.append_assoc] at e2
    obtain ⟨h1, h2⟩ := cut_first (c := 32) (hl x List.mem_cons_self) (hm y List.mem_cons_self) e2
    have ih := join_inj (l := z :: l) (m := u :: m) (fun q => nomatch q) (fun q => nomatch q) (fun q hq => hl q (List.mem_cons_of_mem _ hq)) (fun q hq => hm q (List.mem_cons_of_mem _ hq)) (cs_inj h2)
    rw [cs_inj h1, ih]
theorem word_free {k : Nat × Nat} (h : k.1 < 41 ∧ k.2 < 41) : 32 ∉ cs (word k) := by
  unfold word
  rw [cs_app, cs_app, cs_dash]
  simp only [List.mem_append, List.mem_singleton, not_or]
  exact ⟨⟨(num_free _ h.1).1.1, by decide⟩, (num_free _ h.2).1.1⟩
theorem split_row {n : Nat} {ks : List (Nat × Nat)} (hn : n < 41) (hk : ∀ k ∈ ks, k.1 < 41 ∧ k.2 < 41) : Txt.split (row n ks) blank = num n :: ks.map word := by
  refine join_inj ?_ (fun q => nomatch q) ?_ ?_ ?_
  · intro e
    have := StrLaws.join_split (row n ks) blank
    have p := PyProof.Rows.split_pos (row n ks) blank
    rw [e] at p
    exact absurd p (by decide)
  · rw [blank_one]; exact StrLaws.split_free _ 32
  · intro x hx
    rcases List.mem_cons.mp hx with rfl | hx
    · exact (num_free n hn).1.1
    · obtain ⟨k, hk', rfl⟩ := List.mem_map.mp hx
      exact word_free (hk k hk')
  · rw [StrLaws.join_split]
    exact row_eq ks (num n)
theorem part_word {k : Nat × Nat} (h : k.1 < 41 ∧ k.2 < 41) : (Txt.partition (word k) dash).1 = num k.1 ∧ (Txt.partition (word k) dash).2.2 = num k.2 := by
  have f1 := (num_free _ h.1).1.2
  have hw : cs (word k) = cs (num k.1) ++ 45 :: cs (num k.2) := by
    unfold word
    rw [cs_app, cs_app, cs_dash, List.append_assoc]; rfl
  have sum := StrLaws.partition_sum (word k) dash
  unfold Txt.partition at sum ⊢
  rcases StrLaws.occ_head (word k) dash 1 (Nat.le_refl 1) with ⟨h0, hn⟩ | ⟨i, r, h0, hi, hn⟩
  · exfalso
    have z := StrLaws.part_free (word k) 45 0 (word k).length (Nat.le_refl _) (fun q _ _ hA => hn q (by rw [dash_one]; exact hA))
    rw [StrLaws.sub_whole] at z
    refine z ?_
    show 45 ∈ cs (word k)
    rw [hw]; simp
  · rw [h0] at sum ⊢
    dsimp only at sum ⊢
    have z := StrLaws.part_free (word k) 45 0 i (by have := hi.1; omega) (fun q _ hq hA => hn q hq (by rw [dash_one]; exact hA))
    have e := congrArg cs sum
    rw [cs_app, cs_app, cs_dash, hw, List.append_assoc] at e
    obtain ⟨h1, h2⟩ := cut_first (c := 45) z f1 e
    exact ⟨cs_inj h1, cs_inj h2⟩
theorem row_len (ks : List (Nat × Nat)) (hk : ∀ k ∈ ks, k.1 < 41 ∧ k.2 < 41) : ∀ d : Str, (ks.foldl (fun d k => d ++ blank ++ num k.1 ++ dash ++ num k.2) d).length ≤ d.length + 6 * ks.length := by
  induction ks with
  | nil => intro d; simp
  | cons k ks ih =>
    intro d
    rw [List.foldl_cons]
    have hk1 := hk k List.mem_cons_self
    have z := ih (fun q hq => hk q (List.mem_cons_of_mem _ hq)) (d ++ blank ++ num k.1 ++ dash ++ num k.2)
    have l1 := (num_free _ hk1.1).2
    have l2 := (num_free _ hk1.2).2
    have e : (d ++ blank ++ num k.1 ++ dash ++ num k.2).length = d.length + 1 + (num k.1).length + 1 + (num k.2).length := by
      rw [← cs_len, ← cs_len d, ← cs_len (num k.1), ← cs_len (num k.2), cs_app, cs_app, cs_app, cs_app, cs_blank, cs_dash]
      simp; omega
    rw [e] at z
    rw [List.length_cons]
    omega
end HG
namespace HG
def mergeL (h : List Nat) (a b : Nat) : List Nat := h.map fun x => if x = h.getD b 0 then h.getD a 0 else x
def homesAt (n : Nat) (ks : List (Int × Int)) (i : Nat) : List Nat := (ks.take i).foldl (fun h k => mergeL h k.1.toNat k.2.toNat) (List.range n)
def Homes (n : Nat) (h : List Nat) : Prop := h.length = n ∧ ∀ v, v < n → h.getD v 0 < n ∧ h.getD (h.getD v 0) 0 = h.getD v 0
theorem getD_map {h : List Nat} {f : Nat → Nat} {v : Nat} (hv : v < h.length) : (h.map f).getD v 0 = f (h.getD v 0) := by
  rw [List.getD_eq_getElem?_getD, List.getD_eq_getElem?_getD, List.getElem?_map, List.getElem?_eq_getElem hv]; rfl
theorem merge_at {n : Nat} {h : List Nat} (hl : h.length = n) {a b v : Nat} (hv : v < n) : (mergeL h a b).getD v 0 = if h.getD v 0 = h.getD b 0 then h.getD a 0 else h.getD v 0 := by
  unfold mergeL
  rw [getD_map (by omega)]
theorem merge_homes {n : Nat} {h : List Nat} (H : Homes n h) {a b : Nat} (ha : a < n) (hb : b < n) : Homes n (mergeL h a b) := by
  obtain ⟨hl, hi⟩ := H
  refine ⟨by unfold mergeL; rw [List.length_map]; exact hl, fun v hv => ?_⟩
  have hA := hi a ha
  have hV := hi v hv
  rw [merge_at hl hv]
  by_cases e : h.getD v 0 = h.getD b 0
  · rw [if_pos e]
    refine ⟨hA.1, ?_⟩
    rw [merge_at hl hA.1, hA.2]
    split <;> rfl
  · rw [if_neg e]
    refine ⟨hV.1, ?_⟩
    rw [merge_at hl hV.1, hV.2, if_neg e]
theorem range_getD {n v : Nat} (hv : v < n) : (List.range n).getD v 0 = v := by
  rw [List.getD_eq_getElem?_getD, List.getElem?_range hv]; rfl
theorem range_homes (n : Nat) : Homes n (List.range n) := ⟨List.length_range, fun v hv => by rw [range_getD hv]; exact ⟨hv, range_getD hv⟩⟩
def own (n : Nat) (h : List Nat) : Nat := (List.range n).countP fun v => h.getD v 0 == v
theorem countP_but {p q : Nat → Bool} {x : Nat} : ∀ {l : List Nat}, l.Nodup → (∀ v ∈ l, p v = true → q v = true ∨ v = x) → l.countP p ≤ l.countP q + 1
  | [], _, _ => by simp
  | v :: l, nd, h => by
    rw [List.nodup_cons] at nd
    rw [List.countP_cons, List.countP_cons]
    by_cases e : v = x
    · have : l.countP p ≤ l.countP q := List.countP_mono_left fun u hu hp => by
        rcases h u (List.mem_cons_of_mem _ hu) hp with z | z
        · exact z
        · exact absurd (e.trans z.symm ▸ hu) nd.1
      split <;> split <;> omega
    · have ih := countP_but nd.2 fun u hu hp => h u (List.mem_cons_of_mem _ hu) hp
      by_cases hp : p v = true
      · rcases h v List.mem_cons_self hp with z | z
        · rw [if_pos hp, if_pos z]; omega
        · exact absurd z e
      · rw [if_neg hp]; omega
theorem own_merge {n : Nat} {h : List Nat} (H : Homes n h) (a b : Nat) : own n h ≤ own n (mergeL h a b) + 1 := by
  refine countP_but (x := h.getD b 0) List.nodup_range fun v hv hp => ?_
  have hv' := List.mem_range.mp hv
  have e := eq_of_beq hp
  by_cases z : v = h.getD b 0
  · exact .inr z
  · refine .inl ?_
    rw [merge_at H.1 hv', if_neg (by rw [e]; exact z), e]
    exact beq_self_eq_true v
theorem merge_same {h : List Nat} {a b : Nat} (e : h.getD a 0 = h.getD b 0) : mergeL h a b = h := by
  unfold mergeL
  rw [e]
  have : (fun x => if x = h.getD b 0 then h.getD b 0 else x) = id := by
    funext x
    by_cases z : x = h.getD b 0
    · rw [if_pos z]; exact z.symm
    · rw [if_neg z]; rfl
  rw [this, List.map_id]
theorem own_range (n : Nat) : own n (List.range n) = n := by
  unfold own
  rw [List.countP_eq_length.mpr fun v hv => by rw [range_getD (List.mem_range.mp hv)]; exact beq_self_eq_true v, List.length_range]
theorem homesAt_succ {n : Nat} {ks : List (Int × Int)} {i : Nat} {k : Int × Int} (h : ks[i]? = some k) : homesAt n ks (i + 1) = mergeL (homesAt n ks i) k.1.toNat k.2.toNat := by
  unfold homesAt
  have : ks.take (i + 1) = ks.take i ++ [k] := by rw [List.take_add_one, h]; rfl
  rw [this, List.foldl_append]; rfl
section
variable {n : Nat} {ks : List (Int × Int)} (hb : ∀ k ∈ ks, 0 ≤ k.1 ∧ k.1 < k.2 ∧ k.2 < (n : Int))
include hb
theorem homesAt_ok : ∀ i, i ≤ ks.length → Homes n (homesAt n ks i)
  | 0, _ => range_homes n
  | i + 1, hi => by
    have g := List.getElem?_eq_getElem (show i < ks.length by omega)
    rw [homesAt_succ g]
    have b := hb _ (List.getElem_mem (show i < ks.length by omega))
    exact merge_homes (homesAt_ok i (by omega)) (by omega) (by omega)
theorem homesAt_keep {u v : Nat} (hu : u < n) (hv : v < n) {i : Nat} (e : (homesAt n ks i).getD u 0 = (homesAt n ks i).getD v 0) : ∀ d, i + d ≤ ks.length → (homesAt n ks (i + d)).getD u 0 = (homesAt n ks (i + d)).getD v 0
  | 0, _ => e
  | d + 1, hd => by
    have ih := homesAt_keep hu hv e d (by omega)
    have g := List.getElem?_eq_getElem (show i + d < ks.length by omega)
    have l := (homesAt_ok (n := n) (ks := ks) hb (i + d) (by omega)).1
    rw [← Nat.add_assoc, homesAt_succ g, merge_at l hu, merge_at l hv, ih]
theorem homesAt_rod {i : Nat} {k : Int × Int} (g : ks[i]? = some k) : (homesAt n ks ks.length).getD k.1.toNat 0 = (homesAt n ks ks.length).getD k.2.toNat 0 := by
  have hi : i < ks.length := (List.getElem?_eq_some_iff.mp g).1
  have b := hb k (List.mem_of_getElem? g)
  have l := (homesAt_ok (n := n) (ks := ks) hb i (by omega)).1
  have z := homesAt_keep (n := n) (ks := ks) hb (u := k.1.toNat) (v := k.2.toNat) (by omega) (by omega) (i := i + 1) (by
    rw [homesAt_succ g, merge_at l (by omega), merge_at l (by omega), if_pos rfl]
    split <;> rfl) (ks.length - (i + 1)) (by omega)
  have e : i + 1 + (ks.length - (i + 1)) = ks.length := by omega
  rw [e] at z
  exact z
theorem own_le (i : Nat) : ∀ d, i + d ≤ ks.length → own n (homesAt n ks i) ≤ own n (homesAt n ks (i + d)) + d
  | 0, _ => Nat.le_refl _
  | d + 1, hd => by
    have ih := own_le i d (by omega)
    have g := List.getElem?_eq_getElem (show i + d < ks.length by omega)
    have st := own_merge (homesAt_ok (n := n) (ks := ks) hb (i + d) (by omega)) (ks[i + d]).1.toNat (ks[i + d]).2.toNat
    rw [← homesAt_succ g] at st
    have e : i + (d + 1) = i + d + 1 := rfl
    rw [e]
    omega
theorem no_ring_of (hn : ks.length + 1 = n) {c : Nat} (one : ∀ v, v < n → (homesAt n ks ks.length).getD v 0 = c) {i : Nat} {k : Int × Int} (g : ks[i]? = some k) :
    (homesAt n ks i).getD k.1.toNat 0 ≠ (homesAt n ks i).getD k.2.toNat 0 := fun e => by
  have hi : i < ks.length := (List.getElem?_eq_some_iff.mp g).1
  have s1 := own_le (n := n) (ks := ks) hb 0 i (by omega)
  rw [Nat.zero_add] at s1
  have s2 := own_le (n := n) (ks := ks) hb (i + 1) (ks.length - (i + 1)) (by omega)
  have e2 : i + 1 + (ks.length - (i + 1)) = ks.length := by omega
  rw [e2, homesAt_succ g, merge_same e] at s2
  have z0 : homesAt n ks 0 = List.range n := rfl
  rw [z0, own_range] at s1
  have last : own n (homesAt n ks ks.length) ≤ 1 := by
    unfold own
    have q := countP_but (p := fun v => (homesAt n ks ks.length).getD v 0 == v) (q := fun _ => false) (x := c) (List.nodup_range (n := n)) fun v hv hp => by
      have := eq_of_beq hp
      rw [one v (List.mem_range.mp hv)] at this
      exact .inr this.symm
    rw [List.countP_false] at q
    exact q
  omega
end
theorem rodM_ends {a b : Nat} : ((rodM (a : Int) (b : Int)).1.toNat = a ∧ (rodM (a : Int) (b : Int)).2.toNat = b) ∨ ((rodM (a : Int) (b : Int)).1.toNat = b ∧ (rodM (a : Int) (b : Int)).2.toNat = a) := by
  unfold rodM
  dsimp only
  by_cases h : (b : Int) < a
  · right; rw [if_pos h, if_neg (by omega)]; omega
  · by_cases h2 : (b : Int) > a
    · left; rw [if_neg h, if_pos h2]; omega
    · left; rw [if_neg h, if_neg h2]; omega
theorem HedgeOk.one_home {n : Nat} {ks : List (Int × Int)} (h : HedgeOk n ks) : ∃ c, ∀ v, v < n → (homesAt n ks ks.length).getD v 0 = c := by
  have hb : ∀ k ∈ ks, 0 ≤ k.1 ∧ k.1 < k.2 ∧ k.2 < (n : Int) := fun k hk => h.rod hk
  obtain ⟨o, us, hp, hl, hg, hu⟩ := h.tree
  have lo : o.length = n := by rw [hp.length_eq, List.length_range]
  refine ⟨(homesAt n ks ks.length).getD (o.getD 0 0) 0, fun v hv => ?_⟩
  have key : ∀ m j, j ≤ m → j < n → (homesAt n ks ks.length).getD (o.getD j 0) 0 = (homesAt n ks ks.length).getD (o.getD 0 0) 0 := by
    intro m
    induction m with
    | zero => intro j h1 _; have : j = 0 := by omega
              subst this; rfl
    | succ m ih =>
      intro j h1 h2
      cases j with
      | zero => rfl
      | succ j =>
        have hj : j < us.length := by omega
        obtain ⟨x, hx, e⟩ := hg j _ (List.getElem?_eq_getElem hj)
        have hin : us[j] ∈ ks := hu.mem_iff.mpr (List.getElem_mem hj)
        obtain ⟨i, hi, ei⟩ := List.mem_iff_getElem.mp hin
        have r := homesAt_rod hb (i := i) (k := us[j]) (by rw [List.getElem?_eq_getElem hi, ei])
        rw [e] at r
        have ih2 := ih x (by omega) (by omega)
        rcases rodM_ends (a := o.getD (j + 1) 0) (b := o.getD x 0) with ⟨z1, z2⟩ | ⟨z1, z2⟩
        · rw [z1, z2] at r; rw [r]; exact ih2
        · rw [z1, z2] at r; rw [← r]; exact ih2
  have hv2 : v ∈ o := hp.mem_iff.mpr (List.mem_range.mpr hv)
  obtain ⟨j, hj, ej⟩ := List.mem_iff_getElem.mp hv2
  have z := key j j (Nat.le_refl _) (by omega)
  rw [List.getD_eq_getElem?_getD (l := o) (i := j), List.getElem?_eq_getElem hj] at z
  rw [← ej]; exact z
theorem HedgeOk.no_ring {n : Nat} {ks : List (Int × Int)} (h : HedgeOk n ks) {i : Nat} {k : Int × Int} (g : ks[i]? = some k) : (homesAt n ks i).getD k.1.toNat 0 ≠ (homesAt n ks i).getD k.2.toNat 0 := by
  obtain ⟨c, hc⟩ := h.one_home
  exact no_ring_of (fun k hk => h.rod hk) (by have := h.len; have := h.pos; omega) hc g
theorem HedgeOk.strict {n : Nat} {ks : List (Int × Int)} (h : HedgeOk n ks) {i : Nat} {a b : Int × Int} (ha : ks[i]? = some a) (hb : ks[i + 1]? = some b) : pkey a < pkey b := by
  have hi : i + 1 < ks.length := (List.getElem?_eq_some_iff.mp hb).1
  have r := h.rise
  rw [List.pairwise_map, List.pairwise_iff_getElem] at r
  have le := r i (i + 1) (by omega) hi (by omega)
  have ea : ks[i] = a := (List.getElem?_eq_some_iff.mp ha).2
  have eb : ks[i + 1] = b := (List.getElem?_eq_some_iff.mp hb).2
  rw [ea, eb] at le
  have ra := h.rod (List.mem_of_getElem? ha)
  have rb := h.rod (List.mem_of_getElem? hb)
  have most := h.most
  by_cases e : a = b
  · exfalso
    subst e
    have nr := h.no_ring hb
    have hbd : ∀ k ∈ ks, 0 ≤ k.1 ∧ k.1 < k.2 ∧ k.2 < (n : Int) := fun k hk => h.rod hk
    have l := (homesAt_ok (n := n) (ks := ks) hbd i (by omega)).1
    refine nr ?_
    rw [homesAt_succ ha, merge_at l (by omega), merge_at l (by omega), if_pos rfl]
    split <;> rfl
  · have ne : pkey a ≠ pkey b := fun z => e (by
      unfold pkey at z
      have h1 : a.1 = b.1 := by omega
      have h2 : a.2 = b.2 := by omega
      exact Prod.ext h1 h2)
    omega
end HG
namespace L2
open PySem PySem.Spec PyProof.Rows
def f2 (o : Obj) : Option Value := match o.data with
  | .fields vs => vs[2]?
  | _ => none
inductive KD {α : Type} : Sem α → Prop
  | pure (a : α) : KD (.pure a)
  | raise (e : Value) : KD (.raise e)
  | unsup (w : String) : KD (.unsupported w)
  | rule {t : String} {k : Unit → Sem α} : (∀ x, KD (k x)) → KD (.rule t k)
  | load {a : Addr} {p : Option Value} {k : Obj → Sem α} : (∀ x, KD (k x)) → KD (.load a p k)
  | update {a : Addr} {p : Option Value} {f : Obj → Obj} {k : Unit → Sem α} : (∀ o, (f o).dict = o.dict ∧ f2 (f o) = f2 o) → (∀ x, KD (k x)) → KD (.update a p f k)
  | alloc {o : Obj} {k : Addr → Sem α} : (∀ x, KD (k x)) → KD (.alloc o k)
  | register {a : Addr} {k : Unit → Sem α} : KD (.register a k)
  | stack {k : List (Code × Pos) → Sem α} : (∀ x, KD (k x)) → KD (.stack k)
theorem KD.bind {α β : Type} {m : Sem α} {f : α → Sem β} (hm : KD m) (hf : ∀ a, KD (f a)) : KD (m >>= f) := by
  show KD (m.bind f)
  induction hm with
  | pure a => exact hf a
  | raise e => exact .raise e
  | unsup w => exact .unsup w
  | rule _ ih => exact .rule ih
  | load _ ih => exact .load ih
  | update h _ ih => exact .update h ih
  | alloc _ ih => exact .alloc ih
  | register => exact .register
  | stack _ ih => exact .stack ih
def DictIs (x : Addr) (dd : Option Addr) (c2 : Option Value) (h : Heap) : Prop := x < h.objs.size ∧ ∀ o, h.get? x = some o → o.dict = dd ∧ f2 o = c2
theorem DictIs.upd {x a : Addr} {dd : Option Addr} {c2 : Option Value} {h : Heap} {f : Obj → Obj} (D : DictIs x dd c2 h) (hf : ∀ o, (f o).dict = o.dict ∧ f2 (f o) = f2 o) (ha : (h.get? a).isSome) : DictIs x dd c2 (h.update a f) := by
  refine ⟨by rw [Heap.size_update]; exact D.1, fun o e => ?_⟩
  by_cases q : a = x
  · subst q
    obtain ⟨o1, e1⟩ := Option.isSome_iff_exists.mp ha
    cases hfr : (f o1).isFreed with
    | false =>
      rw [Heap.get?_update_self f e1 hfr] at e
      cases e
      rw [(hf o1).1, (hf o1).2]
      exact D.2 o1 e1
    | true =>
      exfalso
      obtain ⟨objs, l⟩ := h
      unfold Heap.get? Heap.update at e
      unfold Heap.get? at e1
      dsimp only at e e1
      rw [Array.getElem?_modify] at e
      rw [if_pos rfl] at e
      cases e2 : objs[a]? with
      | none => rw [e2] at e; simp at e
      | some o2 =>
        rw [e2] at e e1
        have z : o2 = o1 := by
          obtain ⟨c2, d2, da2, s2⟩ := o2
          cases da2 <;> first | (cases e1; done) | exact Option.some.inj e1
        subst z
        simp only [Option.map_some] at e
        revert e hfr
        cases f o2 with
        | mk c d da s => cases da <;> intro hfr e <;> first | (cases e; done) | (simp at hfr; done)
  · rw [Heap.get?_update_other _ _ q] at e
    exact D.2 o e
theorem KD.wp {α : Type} {M : Model} {Γ : PySem.Ctx} {t : Sem α} {Q : α → Pos → Shared → Prop} {E : Value → Pos → Shared → Prop} {x : Addr} {dd : Option Addr} {c2 : Option Value} (k : KD t) :
    ∀ (p : Pos) (s : Shared), DictIs x dd c2 s.heap → Sem.wp M Γ t Q E p s → Sem.wp M Γ t (fun a p s' => Q a p s' ∧ DictIs x dd c2 s'.heap) E p s := by
  induction k with
  | pure a => exact fun p s D h => ⟨h, D⟩
  | raise e => exact fun p s D h => h
  | unsup w => exact fun p s D h => h
  | rule _ ih => exact fun p s D h => ih () p s D h
  | load _ ih => exact fun p s D h => by obtain ⟨o, e, h⟩ := h; exact ⟨o, e, ih o p s D h⟩
  | update hf _ ih => exact fun p s D h => ⟨h.1, ih () p _ (D.upd hf h.1) h.2⟩
  | alloc _ ih =>
    refine fun p s D h => ih _ p _ ⟨by show x < (s.heap.push _).objs.size; rw [Heap.size_push]; exact Nat.lt_succ_of_lt D.1, fun o e => ?_⟩ h
    have e' : (s.heap.push _).get? x = some o := e
    rw [Heap.get?_push_ne _ _ _ (Nat.ne_of_lt D.1)] at e'
    exact D.2 o e'
  | register => exact fun p s D h => h
  | stack _ ih => exact fun p s D h => ih _ p s D h
theorem KD.any {α : Type} {M : Model} {A : Around} {t : Sem α} {Q : α → Shared → Prop} {E : Value → Shared → Prop} {s : Shared} {x : Addr} {dd : Option Addr} {c2 : Option Value} (k : KD t) (D : DictIs x dd c2 s.heap) (h : wpAny M A t Q E s) :
    wpAny M A t (fun a s' => Q a s' ∧ DictIs x dd c2 s'.heap) E s := fun Γ p hΓ => k.wp p s D (h Γ p hΓ)
theorem kd_load (a : Addr) : KD (load a) := .load fun _ => .pure _
theorem kd_field (v : Value) (i : Nat) : KD (field v i) := by
  unfold field fieldsOf
  refine .bind ?_ fun vs => ?_
  · cases v <;> first | exact .unsup _ | skip
    refine .bind (kd_load _) fun o => ?_
    cases o.data <;> first | exact .pure _ | exact .unsup _
  · cases vs[i]? <;> first | exact .pure _ | exact .unsup _
theorem kd_setField (v : Value) (i : Nat) (x : Value) (hi : i ≠ 2 := by decide) : KD (setField v i x) := by
  unfold setField
  cases v <;> first | exact .unsup _ | skip
  unfold updateField
  refine .bind (kd_load _) fun o => ?_
  cases o.data <;> first | exact .unsup _ | skip
  dsimp only
  split
  · refine .update (fun o => ?_) fun _ => .pure _
    obtain ⟨c, dd, da, sl⟩ := o
    cases da with
    | fields vs =>
      refine ⟨rfl, ?_⟩
      show (vs.setIfInBounds i x)[2]? = vs[2]?
      rw [Array.getElem?_setIfInBounds, if_neg hi]
    | _ => exact ⟨rfl, rfl⟩
  · exact .unsup _
theorem kd_setFlight (e : Value) (f : Option Addr) : KD (setFlight e f) := by
  unfold setFlight
  refine .bind (kd_field _ _) fun tb => ?_
  split
  · exact kd_setField _ _ _
  · exact .pure _
theorem kd_ready : ∀ l : List Env, KD (readyFrames l)
  | [] => .pure _
  | env :: outer => by
    unfold readyFrames
    cases env.frame with
    | none => exact .unsup _
    | some f =>
      dsimp only
      refine .bind (kd_load _) fun o => ?_
      split
      · exact .pure _
      · refine .bind ?_ fun i => .bind ?_ fun b => .bind (.update (fun _ => ⟨rfl, rfl⟩) fun _ => .pure _) fun _ => kd_ready outer
        · unfold behindIsImport
          repeat' (first | exact .pure _ | exact .bind (kd_field _ _) fun _ => .pure _ | split)
        · cases outer with
          | nil =>
            unfold keptBack
            repeat' (first | exact .pure _ | exact .bind (.bind (.stack fun _ => .pure _) fun _ => .pure _) fun _ => .pure _ | split)
          | cons c r => exact .pure _
theorem kd_frameOf (env : Env) : KD (PySem.frameOf env) := by
  unfold PySem.frameOf
  refine .bind (.bind (.stack fun _ => .pure _) fun _ => .pure _) fun es => .bind ?_ fun r => ?_
  · cases List.dropWhile (fun x => x.frame != env.frame) es with
    | nil => exact .pure _
    | cons a b => exact .bind (kd_ready _) fun _ => .pure _
  · cases r <;> first | exact .pure _ | exact .unsup _
theorem kd_place (f : Addr) (b : Bool) : KD (entryPlaceOf f b) := by
  unfold entryPlaceOf
  refine .bind (.stack fun _ => .pure _) fun acts => ?_
  split <;> exact .pure _
theorem kd_entry (a b c d e : Value) (l : List Value) : KD (EntryCells.newEntry a b c d e l) := by
  unfold EntryCells.newEntry newFields newObj
  dsimp only
  have z : ∀ vs, KD (newObjAsIs (.type "traceback") (.fields vs)) := fun vs => by
    unfold newObjAsIs
    exact .bind (.alloc fun _ => .pure _) fun _ => .pure _
  generalize ([a, b, c, d, e] ++ if l.isEmpty = true then List.replicate 6 Value.none else l).toArray = vs
  split
  · exact .bind (.unsup _) fun _ => z _
  · exact z _
theorem kd_note (e : Value) (env : Env) : KD (noteFrame e env) := by
  unfold noteFrame
  cases env.frame with
  | none => exact .unsup _
  | some f =>
    dsimp only
    refine .bind (kd_field _ _) fun head => ?_
    have rest : KD (do setField e 1 (← EntryCells.newEntry head (← PySem.frameOf env) .none (rawInt f) .none (← entryPlaceOf f (head != .none)))) :=
      .bind (kd_frameOf _) fun _ => .bind (kd_place _ _) fun _ => .bind (kd_entry ..) fun _ => kd_setField _ _ _
    split
    · refine .bind (kd_field _ _) fun _ => ?_
      split
      · exact .pure _
      · exact .bind (kd_setField _ _ _) fun _ => rest
    · exact rest
theorem kd_leaving (env : Env) (e : Value) : KD (leaving env e) := .bind (kd_note _ _) fun _ => kd_setFlight _ _
end L2
namespace L2
open PySem PySem.Spec PyProof.Rows
theorem ObjOk.there {P : Program} {w : World} {H : Hp} {h : Heap} {a : Addr} {o : HO} (x : ObjOk P w H h a o) : ∃ ob, h.get? a = some ob := by
  cases o with
  | lst xs => obtain ⟨_, _, _, _, e⟩ := x; exact ⟨_, e⟩
  | tup xs => obtain ⟨_, _, _, ob, e, _⟩ := x; exact ⟨_, e⟩
  | dK kvs => obtain ⟨_, _, _, _, o, _, _, e, _⟩ := x; exact ⟨_, e⟩
  | dT kvs => obtain ⟨_, _, _, _, o, _, _, e, _⟩ := x; exact ⟨_, e⟩
  | set S n => obtain ⟨o, _, _, _, e, _⟩ := x; exact ⟨_, e⟩
  | ins C dx fs => obtain ⟨_, _, _, e, _⟩ := x; exact ⟨_, e⟩
  | own y => exact x
  | xd fs => obtain ⟨_, ⟨_, _, _, e, _⟩, _⟩ := x; exact ⟨_, e⟩
  | rng lo hi => obtain ⟨_, _, _, e⟩ := x; exact ⟨_, e⟩
  | frz ob u => obtain ⟨e, _⟩ := x; exact ⟨_, e⟩
  | tbl ps => exact ⟨_, (show h.get? a = some _ from x)⟩
  | met f y => exact ⟨_, (show h.get? a = some _ from x)⟩
  | ext φ => exact x.2.1
section
variable {M : Model} {A : Around} {E : Value → Shared → Prop} {s : Shared} {B : Heap} {env : Env} {outer l : List Env} {L e : Addr} {cls a0 : Value} {dd : Option Addr} {c2 : Option Value} {Q : Unit → Shared → Prop}
theorem leaves_onD (hfr : A.frames = some (env :: outer)) (hf : env.frame = some L) (hfl : Heap.FlyingW B (env :: outer) e cls a0 s.heap) (D : DictIs e dd c2 s.heap)
    (hQ : ∀ h', Heap.FlyingW B outer e cls a0 h' → s.heap.UpToSlots h' → DictIs e dd c2 h' → Q () { s with heap := h' }) : wpAny M A (leaving env (.ref e)) Q E s :=
  wpAny_mono ((kd_leaving env (.ref e)).any D (wpAny_leaves_onW (Q := fun _ s' => ∃ h', s' = { s with heap := h' } ∧ Heap.FlyingW B outer e cls a0 h' ∧ s.heap.UpToSlots h') hfr hf hfl fun h' f u => ⟨h', rfl, f, u⟩))
    (fun _ _ z => by obtain ⟨⟨h', rfl, f, u⟩, d⟩ := z; exact hQ h' f u d) fun _ _ x => x
theorem leaves_madeD {h : Heap} {us : List Value} (hfr : A.frames = some (env :: outer)) (hf : env.frame = some L) (hkb : B.StaysIn h) (hl : h.FunFrames B (env :: outer)) (hx : Heap.MadeExcOf h s.heap e cls us)
    (hQ : ∀ h' t, Heap.FlyingW B outer e cls (.ref t) h' → h'.TupAt t us → B.get? t = none → s.heap.UpToSlots h' → DictIs e none (some .none) h' → Q () { s with heap := h' }) : wpAny M A (leaving env (.ref e)) Q E s := by
  obtain ⟨t, he, _⟩ := hx.there
  exact wpAny_mono ((kd_leaving env (.ref e)).any (x := e) (dd := none) (c2 := some .none) ⟨Heap.lt_size he, fun o z => by rw [he] at z; cases z; exact ⟨rfl, rfl⟩⟩ (wpAny_leaves_madeW (Q := fun _ s' => ∃ h' t, s' = { s with heap := h' } ∧ Heap.FlyingW B outer e cls (.ref t) h' ∧ h'.TupAt t us ∧ B.get? t = none ∧ s.heap.UpToSlots h') hfr hf hkb hl hx fun h' t f a b u => ⟨h', t, rfl, f, a, b, u⟩))
    (fun _ _ z => by obtain ⟨⟨h', t, rfl, f, a, b, u⟩, d⟩ := z; exact hQ h' t f a b u d) fun _ _ x => x
theorem looks_onD (hfr : A.frames = some (env :: outer)) (hf : env.frame = some L) (hfl : Heap.FlyingW B (env :: outer) e cls a0 s.heap) (D : DictIs e dd c2 s.heap)
    (hQ : ∀ h', Heap.HeldW B (env :: outer) e cls a0 L h' → s.heap.UpToSlots h' → DictIs e dd c2 h' → Q () { s with heap := h' }) : wpAny M A (noteFrame (.ref e) env) Q E s :=
  wpAny_mono ((kd_note (.ref e) env).any D (wpAny_looks_onW (Q := fun _ s' => ∃ h', s' = { s with heap := h' } ∧ Heap.HeldW B (env :: outer) e cls a0 L h' ∧ s.heap.UpToSlots h') hfr hf hfl fun h' f u => ⟨h', rfl, f, u⟩))
    (fun _ _ z => by obtain ⟨⟨h', rfl, f, u⟩, d⟩ := z; exact hQ h' f u d) fun _ _ x => x
theorem landsD (hh : Heap.HeldW B l e cls a0 L s.heap) (D : DictIs e dd c2 s.heap)
    (hQ : ∀ h', Heap.FlyingW B l e cls a0 h' → s.heap.UpToSlots h' → DictIs e dd c2 h' → Q () { s with heap := h' }) : wpAny M A (setFlight (.ref e) none) Q E s :=
  wpAny_mono ((kd_setFlight (.ref e) none).any D (wpAny_landsW (Q := fun _ s' => ∃ h', s' = { s with heap := h' } ∧ Heap.FlyingW B l e cls a0 h' ∧ s.heap.UpToSlots h') hh fun h' f u => ⟨h', rfl, f, u⟩))
    (fun _ _ z => by obtain ⟨⟨h', rfl, f, u⟩, d⟩ := z; exact hQ h' f u d) fun _ _ x => x
theorem againD (hh : Heap.FlyingW B l e cls a0 s.heap) (D : DictIs e dd c2 s.heap)
    (hQ : ∀ h', Heap.FlyingW B l e cls a0 h' → s.heap.UpToSlots h' → DictIs e dd c2 h' → Q () { s with heap := h' }) : wpAny M A (setFlight (.ref e) none) Q E s :=
  wpAny_mono ((kd_setFlight (.ref e) none).any D (lands_againW (Q := fun _ s' => ∃ h', s' = { s with heap := h' } ∧ Heap.FlyingW B l e cls a0 h' ∧ s.heap.UpToSlots h') hh fun h' f u => ⟨h', rfl, f, u⟩))
    (fun _ _ z => by obtain ⟨⟨h', rfl, f, u⟩, d⟩ := z; exact hQ h' f u d) fun _ _ x => x
end
abbrev excO (C : Addr) (dd : Option Addr) (t : Addr) : Obj := { cls := .ref C, dict := dd, data := .fields #[.ref t, .none, .none, .none, .bool false, .none] }
def ExcH (a C : Addr) (dd : Option Addr) : HO := .ext fun h => ∃ t, h.get? a = some (excO C dd t)
theorem ExcH.ok {P : Program} {w : World} {H : Hp} {h : Heap} {a C t : Addr} {dd : Option Addr} (e : h.get? a = some (excO C dd t)) : ObjOk P w H h a (ExcH a C dd) := ⟨⟨t, e⟩, ⟨_, e⟩, fun _ _ ⟨t, q⟩ k => ⟨t, k _ q⟩⟩
theorem ExcH.get {P : Program} {w : World} {H : Hp} {h : Heap} {a C : Addr} {dd : Option Addr} (hok : HOk P w H h) (e : H a = some (ExcH a C dd)) : ∃ t, h.get? a = some (excO C dd t) := (hok a _ e).1
def rem (H : Hp) (a : Addr) : Hp := fun b => if b = a then none else H b
theorem rem_ne {H : Hp} {a b : Addr} (h : b ≠ a) : rem H a b = H b := by unfold rem; rw [if_neg h]
theorem rem_same {H : Hp} {a : Addr} : rem H a a = none := by unfold rem; rw [if_pos rfl]
theorem rem_some {H : Hp} {a b : Addr} {o : HO} (h : rem H a b = some o) : b ≠ a ∧ H b = some o := by
  unfold rem at h
  split at h
  · cases h
  · rename_i n; exact ⟨n, h⟩
section
variable {M : Model} {A : Around} {E : Value → Shared → Prop} {s : Shared} {B : Heap} {env : Env} {outer l : List Env} {L e : Addr} {dd : Option Addr} {Q : Unit → Shared → Prop}
theorem leaves_filledD {C t : Addr} (hfr : A.frames = some (env :: outer)) (hf : env.frame = some L) (hkb : B.StaysIn s.heap) (hl : s.heap.FunFrames B (env :: outer)) (hen : B.get? e = none) (he : s.heap.get? e = some (excO C dd t))
    (hQ : ∀ h', Heap.FlyingW B outer e (.ref C) (.ref t) h' → s.heap.UpToSlots h' → DictIs e dd (some .none) h' → Q () { s with heap := h' }) : wpAny M A (leaving env (.ref e)) Q E s := by
  refine wpAny_mono ((kd_leaving env (.ref e)).any (x := e) (dd := dd) (c2 := some .none) ⟨Heap.lt_size he, fun o z => by rw [he] at z; cases z; exact ⟨rfl, rfl⟩⟩ (wpAny_leaving_firstW (a0 := .ref t) (Q := fun _ s' => ∃ h', s' = { s with heap := h' } ∧ Heap.LeftW B (env :: outer) e (.ref C) (.ref t) s.heap h') hfr hl hf he hkb hen rfl rfl rfl fun h' l => ⟨h', rfl, l⟩))
    (fun _ _ z => ?_) fun _ _ x => x
  obtain ⟨⟨h', rfl, k1, ⟨_, _, k2⟩, k3, k4⟩, d⟩ := z
  exact hQ h' ⟨k1, hen, k2, k3⟩ k4 d
end
structure XSt (P : Program) (w : World) (outer : List Env) (H : Hp) (s : Shared) (H' : Hp) (B : Heap) (x : Addr) (cls a0 : Value) (dd : Option Addr) (c2 : Option Value) (s' : Shared) : Prop where
  os : s'.os = s.os
  bare : AllBare s'.gens
  un : Un (frs outer) [] H H' s.heap s'.heap
  hok : HOk P w H' B
  keepB : ∀ b o, s.heap.get? b = some o → H b = none → b ∉ frs outer → B.get? b = some o
  thereB : ∀ b o, s.heap.get? b = some o → b ∉ frs outer → ∃ o', B.get? b = some o'
  fly : Heap.FlyingW B outer x cls a0 s'.heap
  free : H' x = none
  new : s.heap.get? x = none
  dct : DictIs x dd c2 s'.heap
def CXG (pc : Option Value → Prop) (P : Program) (w : World) : CXT := fun outer H s E e s' => ∃ x cls a0 dd c2 H' B, e = .ref x ∧ pc c2 ∧ XSt P w outer H s H' B x cls a0 dd c2 s' ∧ E cls dd H'
abbrev CXH (P : Program) (w : World) : CXT := CXG (fun _ => True) P w
abbrev CXN (P : Program) (w : World) : CXT := CXG (fun c2 => c2 = some .none) P w
theorem Un.fly {fs : List Addr} {H H' : Hp} {h h2 h' B : Heap} (u : Un fs [] H H' h h2) (kB : ∀ b o, h.get? b = some o → H b = none → b ∉ fs → B.get? b = some o) (tB : ∀ b o, h.get? b = some o → b ∉ fs → ∃ o', B.get? b = some o')
    (st : B.StaysIn h') (up : h2.UpToSlots h') (nf : ∀ b ∈ fs, ∀ o, h2.get? b = some o → ∀ vs, o.data ≠ .fields vs) : Un fs [] H H' h h' where
  keep := fun b o q n hb _ => st b o (kB b o q n hb)
  slot := fun b o q n hb hx => by
    obtain ⟨sl, e⟩ := u.slot b o q n hb hx
    obtain ⟨sl', e'⟩ := up b _ e (nf b hb _ e)
    exact ⟨sl', e'⟩
  free := u.free
  there := fun b o q hx => by
    by_cases hb : b ∈ fs
    · obtain ⟨o', e⟩ := u.there b o q hx
      obtain ⟨sl, e'⟩ := up b _ e (nf b hb _ e)
      exact ⟨_, e'⟩
    · obtain ⟨o', e⟩ := tB b o q hb
      exact ⟨o', st b o' e⟩
  tups := u.tups
  frzs := u.frzs
  tbls := u.tbls
theorem frames_nf {h B : Heap} {l : List Env} (f : h.FunFrames B l) : ∀ b ∈ frs l, ∀ o, h.get? b = some o → ∀ vs, o.data ≠ .fields vs := fun b hb o e => by
  obtain ⟨_, o', e', nf⟩ := f.mem hb
  rw [e] at e'
  cases e'
  exact nf
section
variable {X : Cx} {pins : List (Addr × Obj)} {σ : St} {H H' : Hp} {s s' : Shared} {B h' : Heap} {x : Addr} {cls a0 : Value} {dd : Option Addr}
theorem Inv.flown (I : Inv X pins σ H s) (q : XSt X.prog X.w X.stack H s H' B x cls a0 dd c2 s') (fl : Heap.FlyingW B X.stack x cls a0 h') (up : s'.heap.UpToSlots h') : Inv X pins σ H' { s' with heap := h' } :=
  I.call' (s' := { s' with heap := h' }) (ch := []) q.os (q.un.fly q.keepB q.thereB fl.1 up (frames_nf q.fly.2.2.1)) (q.hok.kept fl.1) q.bare (fun b z => absurd z (by simp))
theorem out_sub (I : Inv X pins σ H s) {b : Addr} {o : Obj} (e : X.s₀.heap.get? b = some o) (hb : b ∉ frs X.outer) : b ∉ frs X.stack := fun z => by
  rcases List.mem_cons.mp (I.stkSub b z) with rfl | z
  · exact absurd (Nat.lt_of_lt_of_le (Heap.lt_size e) I.ok.above) (Nat.lt_irrefl _)
  · exact hb z
theorem XSt.out (I : Inv X pins σ H s) (hex : X.ex = []) (q : XSt X.prog X.w X.stack H s H' B x cls a0 dd c2 s') (fl : Heap.FlyingW B X.outer x cls a0 h') (up : s'.heap.UpToSlots h') (dk : DictIs x dd c2 h') (hst : ∀ b ∈ frs X.outer, b ∈ frs X.stack) :
    XSt X.prog X.w X.outer X.H₀ X.s₀ H' B x cls a0 dd c2 { s' with heap := h' } := by
  have nx : ∀ b : Addr, b ∉ X.ex := fun b z => by rw [hex] at z; simp at z
  have kB : ∀ b o, X.s₀.heap.get? b = some o → X.H₀ b = none → b ∉ frs X.outer → B.get? b = some o := fun b o e n hb =>
    q.keepB b o (I.base.keep b o e n hb (nx b)) (I.base.free b o e n (nx b)) (out_sub I e hb)
  have tB : ∀ b o, X.s₀.heap.get? b = some o → b ∉ frs X.outer → ∃ o', B.get? b = some o' := fun b o e hb => by
    obtain ⟨o1, e1⟩ := I.base.there b o e (nx b)
    exact q.thereB b o1 e1 (out_sub I e hb)
  have I2 : Inv X pins σ H' s' := I.call' (ch := []) q.os q.un (q.hok.kept q.fly.1) q.bare (fun b z => absurd z (by simp))
  have u2 : Un (frs X.outer) [] X.H₀ H' X.s₀.heap s'.heap := by have := I2.base; rw [hex] at this; exact this
  refine ⟨I2.os, q.bare, u2.fly kB tB fl.1 up (fun b hb => frames_nf q.fly.2.2.1 b (hst b hb)), q.hok, kB, tB, fl, q.free, ?_, dk⟩
  cases e : X.s₀.heap.get? x with
  | none => rfl
  | some o =>
    obtain ⟨o1, e1⟩ := I.base.there x o e (nx x)
    rw [q.new] at e1
    cases e1
theorem XSt.made {vs : List Value} {e t : Addr} {h1 : Heap} (I : Inv X pins σ H s) (hex : X.ex = []) (hx : Heap.MadeExcOf s.heap h1 e cls vs) (hst : ∀ b ∈ frs X.outer, b ∈ frs X.stack)
    (fl : Heap.FlyingW (PySem.W.hideAll s.heap (frs X.stack)) X.outer e cls (.ref t) h') (up : h1.UpToSlots h') (dk : DictIs e none (some .none) h') : XSt X.prog X.w X.outer X.H₀ X.s₀ H (PySem.W.hideAll s.heap (frs X.stack)) e cls (.ref t) none (some .none) { s with heap := h' } := by
  have nx : ∀ b : Addr, b ∉ X.ex := fun b z => by rw [hex] at z; simp at z
  have kB : ∀ b o, X.s₀.heap.get? b = some o → X.H₀ b = none → b ∉ frs X.outer → (PySem.W.hideAll s.heap (frs X.stack)).get? b = some o := fun b o e n hb =>
    PySem.W.hideAll_get _ (I.base.keep b o e n hb (nx b)) (out_sub I e hb)
  have tB : ∀ b o, X.s₀.heap.get? b = some o → b ∉ frs X.outer → ∃ o', (PySem.W.hideAll s.heap (frs X.stack)).get? b = some o' := fun b o e hb => by
    obtain ⟨o1, e1⟩ := I.base.there b o e (nx b)
    exact ⟨o1, PySem.W.hideAll_get _ e1 (out_sub I e hb)⟩
  have u2 : Un (frs X.outer) [] X.H₀ H X.s₀.heap s.heap := by have := I.base; rw [hex] at this; exact this
  have hokB : HOk X.prog X.w H (PySem.W.hideAll s.heap (frs X.stack)) := fun a o ea => (I.hok a o ea).stay (fun b u hb q => PySem.W.hideAll_get _ q fun z => by
    have n := I.stkFree b z
    rcases hb with rfl | hb
    · rw [ea] at n; cases n
    · rw [hb] at n; cases n) (fun _ q => q) fun _ _ q => q
  refine ⟨I.os, I.bare, u2.fly kB tB fl.1 ((Heap.UpToSlots.of_keeps hx.keeps).trans up) (fun b hb => frames_nf I.stack b (hst b hb)), hokB, kB, tB, fl, ?_, ?_, dk⟩
  · cases z : H e with
    | none => rfl
    | some o =>
      obtain ⟨ob, eo⟩ := (I.hok e o z).there
      rw [hx.new] at eo; cases eo
  · cases z : X.s₀.heap.get? e with
    | none => rfl
    | some o =>
      obtain ⟨o1, e1⟩ := I.base.there e o z (nx e)
      rw [hx.new] at e1; cases e1
theorem XSt.filled {C e t : Addr} (I : Inv X pins σ H s) (hex : X.ex = []) (he : H e = some (ExcH e C dd)) (hn : X.s₀.heap.objs.size ≤ e) (hst : ∀ b ∈ frs X.outer, b ∈ frs X.stack)
    (fl : Heap.FlyingW (PySem.W.hideAll s.heap (e :: frs X.stack)) X.outer e (.ref C) (.ref t) h') (up : s.heap.UpToSlots h') (dk : DictIs e dd (some .none) h') :
    XSt X.prog X.w X.outer X.H₀ X.s₀ (rem H e) (PySem.W.hideAll s.heap (e :: frs X.stack)) e (.ref C) (.ref t) dd (some .none) { s with heap := h' } := by
  have nx : ∀ b : Addr, b ∉ X.ex := fun b z => by rw [hex] at z; simp at z
  have old : ∀ b o, X.s₀.heap.get? b = some o → b ≠ e := fun b o q z => by rw [z] at q; exact absurd (Heap.lt_size q) (Nat.not_lt.mpr hn)
  have out : ∀ b o, X.s₀.heap.get? b = some o → b ∉ frs X.outer → b ∉ e :: frs X.stack := fun b o q hb z => by
    rcases List.mem_cons.mp z with z | z
    · exact old b o q z
    · exact out_sub I q hb z
  have kB : ∀ b o, X.s₀.heap.get? b = some o → X.H₀ b = none → b ∉ frs X.outer → (PySem.W.hideAll s.heap (e :: frs X.stack)).get? b = some o := fun b o q n hb =>
    PySem.W.hideAll_get _ (I.base.keep b o q n hb (nx b)) (out b o q hb)
  have tB : ∀ b o, X.s₀.heap.get? b = some o → b ∉ frs X.outer → ∃ o', (PySem.W.hideAll s.heap (e :: frs X.stack)).get? b = some o' := fun b o q hb => by
    obtain ⟨o1, e1⟩ := I.base.there b o q (nx b)
    exact ⟨o1, PySem.W.hideAll_get _ e1 (out b o q hb)⟩
  have ne : ∀ b o, H b = some o → (∀ φ, o ≠ .ext φ) → b ≠ e := fun b o q nq z => by
    rw [z, he] at q; cases q; exact nq _ rfl
  have u1 : Un (frs X.outer) [] X.H₀ H X.s₀.heap s.heap := by have := I.base; rw [hex] at this; exact this
  have u2 : Un (frs X.outer) [] X.H₀ (rem H e) X.s₀.heap s.heap :=
    ⟨u1.keep, u1.slot, fun b o q n hx => by rw [rem_ne (old b o q)]; exact u1.free b o q n hx, u1.there,
      fun b xs q => by have := u1.tups b xs q; rw [rem_ne (ne b _ this (fun _ => by simp))]; exact this,
      fun b o xs q => by have := u1.frzs b o xs q; rw [rem_ne (ne b _ this (fun _ => by simp))]; exact this,
      fun b ps q => by obtain ⟨m, this⟩ := u1.tbls b ps q; exact ⟨m, by rw [rem_ne (ne b _ this (fun _ => by simp))]; exact this⟩⟩
  have hokB : HOk X.prog X.w (rem H e) (PySem.W.hideAll s.heap (e :: frs X.stack)) := fun a o ea => by
    obtain ⟨na, ea⟩ := rem_some ea
    have keep : ∀ b u, b ≠ e → H b ≠ none → s.heap.get? b = some u → (PySem.W.hideAll s.heap (e :: frs X.stack)).get? b = some u := fun b u nb hb q => PySem.W.hideAll_get _ q fun z => by
      rcases List.mem_cons.mp z with z | z
      · exact nb z
      · exact hb (I.stkFree b z)
    refine (I.hok a o ea).stay (fun b u hb q => ?_) (fun b q => ?_) fun b xs q => ?_
    · rcases hb with rfl | hb
      · exact keep b u na (by rw [ea]; simp) q
      · exact keep b u (ne b _ hb (fun _ => by simp)) (by rw [hb]; simp) q
    · rw [rem_ne (ne b _ q (fun _ => by simp))]; exact q
    · rw [rem_ne (ne b _ q (fun _ => by simp))]; exact q
  have nw : X.s₀.heap.get? e = none := Heap.get?_none_of_le hn
  exact ⟨I.os, I.bare, u2.fly kB tB fl.1 up (fun b hb => frames_nf I.stack b (hst b hb)), hokB, kB, tB, fl, rem_same, nw, dk⟩
end
structure XOk (pc : Option Value → Prop) (X : Cx) (E : XK) : Prop where
  made : ∀ (pins : List (Addr × Obj)) (σ : St) (H : Hp) (s : Shared) (h' : Heap) (e : Addr) (cls : Value) (vs : List Value), Inv X pins σ H s → Heap.MadeExcOf s.heap h' e cls vs → E cls none H → X.xe (.ref e) { s with heap := h' }
  filled : ∀ (pins : List (Addr × Obj)) (σ : St) (H : Hp) (s : Shared) (e C : Addr) (dd : Option Addr), Inv X pins σ H s → H e = some (ExcH e C dd) → X.s₀.heap.objs.size ≤ e → E (.ref C) dd (rem H e) → X.xe (.ref e) s
  pass : Passes (CXG pc X.prog X.w) X E
  own : PassesOwn (model X.prog X.w) X.A X.env X.xe
theorem xok_def {P : Program} {w : World} {K : PySem.W.Frag} {mg : Str → Option Value} {base : Heap} {N : List Str} {qual : Str} {scope : Scope} {f : Addr} {cd : Value} {A : Around} {outer : List Env} {s : Shared} {H : Hp} {E : XK} {pc : Option Value → Prop} (hpc : pc (some .none) := by trivial) :
    XOk pc (cxOf (CXG pc P w) P w K mg base N qual scope f cd A outer s H E) E := by
  have hst : ∀ b ∈ frs outer, b ∈ frs (envOfC qual scope s.heap.objs.size f cd :: outer) := fun b hb => by
    unfold frs at hb ⊢
    rw [List.mem_filterMap] at hb ⊢
    obtain ⟨env, h1, h2⟩ := hb
    exact ⟨env, List.mem_cons_of_mem _ h1, h2⟩
  refine ⟨fun pins σ H1 s1 h' e cls vs I hx hE => ?_, fun pins σ H1 s1 e C dd I he hn hE => ?_, fun pins σ H1 s1 e s2 I hq => ?_, PassesOwn.leaving⟩
  · have hin : ∀ env ∈ (envOfC qual scope s.heap.objs.size f cd :: outer), ∀ b, env.frame = some b → b ∈ frs (envOfC qual scope s.heap.objs.size f cd :: outer) := fun env he b hb => List.mem_filterMap.mpr ⟨env, he, hb⟩
    exact leaves_madeD (L := s.heap.objs.size) I.ok.frames rfl (fun b o q => PySem.W.of_hideAll _ q) (PySem.W.funFrames_hide I.stack hin) hx fun h'' t fl _ _ up dk => ⟨e, cls, .ref t, none, some .none, H1, _, rfl, hpc, XSt.made I rfl hx hst fl up dk, hE⟩
  · obtain ⟨t, eo⟩ := ExcH.get I.hok he
    have hin : ∀ env ∈ (envOfC qual scope s.heap.objs.size f cd :: outer), ∀ b, env.frame = some b → b ∈ e :: frs (envOfC qual scope s.heap.objs.size f cd :: outer) := fun env hm b hb => List.mem_cons_of_mem _ (List.mem_filterMap.mpr ⟨env, hm, hb⟩)
    have gone : (PySem.W.hideAll s1.heap (e :: frs (envOfC qual scope s.heap.objs.size f cd :: outer))).get? e = none := PySem.W.hideAll_none _ List.mem_cons_self
    exact leaves_filledD (L := s.heap.objs.size) I.ok.frames rfl (fun b o q => PySem.W.of_hideAll _ q) (PySem.W.funFrames_hide I.stack hin) gone eo fun h'' fl up dk => ⟨e, .ref C, .ref t, dd, some .none, rem H1 e, _, rfl, hpc, XSt.filled I rfl he hn hst fl up dk, hE⟩
  · obtain ⟨x, cls, a0, dd, c2, H', B, rfl, hp2, q, hE⟩ := hq
    exact leaves_onD (L := s.heap.objs.size) I.ok.frames rfl q.fly q.dct fun h' fl up dk => ⟨x, cls, a0, dd, c2, H', B, rfl, hp2, XSt.out I rfl q fl up dk hst, hE⟩
section
variable {P : Program} {w : World} {K : PySem.W.Frag} {mg : Str → Option Value} {base : Heap}
theorem Fun.okx {x qual : Str} {st : Stmt} {f : Addr} {fd : FuncData} {N ps : List Str} {k : Nat} {sp : Sp} {pc : Option Value → Prop} (F : Fun K x qual st f fd) (S : FnScope N ps (defScope st)) (len : ∀ vs H Q E, sp vs H Q E → vs.length = ps.length)
    (hbody : ∀ (cdv : Value) (A : Around) (outer : List Env) (s : Shared) (H : Hp) (vs : List V) (Q : VK) (E : XK), Room k (A.deeper (envOfC qual (defScope st) s.heap.objs.size f cdv)) → sp vs H Q E →
      ∃ t, PSs (cxOf (CXG pc P w) P w K mg base N qual (defScope st) f cdv A outer s H E) (defBody st) t ∧ t { nx := fun _ H' => Q .non H', rt := Q } (start N vs) H) : FnOk P w K mg base (CXG pc P w) (k + 1) f fd ps sp := by
  obtain ⟨oc, od, kV, doc, pm, an, cdv, ct, osl, rfl, lk, hcd⟩ := F.ex
  exact fn_of lk hcd S len fun A outer s H vs Q E hr hsp => hbody cdv A outer s H vs Q E hr hsp
end
abbrev bmV : List Value := [.type "ValueError", .type "Exception", .type "BaseException", .type "object"]
section
variable {X : Cx} {E : XK} {pc : Option Value → Prop}
def tRaise (C : Addr) (E : XK) (t : TA) : TS := fun _ σ H => t σ H fun vs H1 => vs.length ≤ sizeLine ∧ E (.ref C) none H1
theorem ps_raise {x : Str} {C : Addr} {np cpos pos : Pos} {e : Expr} {es : List Expr} {t : TA} (O : XOk pc X E) (own : OwnCls x C bmV "ValueError.__new__" X.mg X.base) (hc : X.calm = true) (hg : Gl X x) (ha : PA X (e :: es) t)
    (he : starEach (e :: es) X.env = (false, eval e X.env) :: starEach es X.env := by rfl) (hpl : (backTo cpos (starEach es X.env)).any (·.1) = false := by rfl) (hd : (x == ("__debug__" : Str)) = false := by decide) :
    PS X (.Raise (some (.Call (.Name x np) (e :: es) [] cpos)) none pos) (tRaise C E t) := by
  intro pins s σ H D I h
  obtain ⟨tl, N, nm, q, bs, hdct, sn, sub, ab, col, dd, k0, k1, k2, k3, k5, mN, hC, hN, hni, T⟩ := own.obj
  refine wpAny_Raise_call_subT (C := C) (nm := nm) (q := q) (N := N) (bs := bs) (bm := tl) (hdct := hdct) (sn := sn) (sub := sub) (ab := ab) (col := col) (dd := dd) (k0 := k0) (k1 := k1) (k2 := k2) (k3 := k3) (k5 := k5)
    PySem.F.excBase_ValueError (mN := mN) (T.hasType PySem.F.excBase_ValueError.hasBase) (I.ok.hd hc) (by rw [he]; show (false || (backTo cpos (starEach es X.env)).any (·.1)) = false; rw [hpl]; rfl) hni (ld_glob I hg own.bound ⟨rfl, ?_⟩ hd)
  have h' := ha cpos pins s σ H _ I h
  rw [he] at h' ⊢
  refine Calls.evalArgs_plain (thn h' fun us s2 ⟨vs, H1, I1, rv, hz, hE⟩ => ⟨rfl, by rw [← rv.length]; exact hz, I1.bk _ _ hC, hN.keeps I1.bk, T.keeps I1.bk, fun h'' e hx => O.made pins σ H1 s2 h'' e _ _ I1 hx hE⟩)
end
abbrev Cx.hand (X : Cx) (a : Addr) : Cx := { X with A := X.A.mark (some (.ref a)), calm := false, xe := fun _ _ => False }
section
variable {X : Cx} {pins : List (Addr × Obj)} {σ : St} {H : Hp} {s : Shared}
theorem Inv.hand (I : Inv X pins σ H s) (a : Addr) : Inv (X.hand a) pins σ H s :=
  ⟨⟨I.ok.mod, I.ok.kind, I.ok.glob, I.ok.blt, I.ok.above, I.ok.inj, I.ok.has, I.ok.cab, (fun z => nomatch z), I.ok.frames, I.ok.stk, I.ok.exf, I.ok.bs, I.ok.bsz, I.ok.noex, I.ok.exfs, I.ok.funs, I.ok.frf⟩, I.os, I.bare, I.base, I.loc, I.cell, I.free, I.freeC, I.pin, I.hok, I.len⟩
theorem Inv.unhand {a : Addr} (ok : X.Ok) (I : Inv (X.hand a) pins σ H s) : Inv X pins σ H s := ⟨ok, I.os, I.bare, I.base, I.loc, I.cell, I.free, I.freeC, I.pin, I.hok, I.len⟩
theorem SP.unhand {a : Addr} {D : Ends} {f : Flow} {s' : Shared} (ok : X.Ok) (h : SP (X.hand a) pins D f s') : SP X pins D f s' := by
  cases f with
  | next => obtain ⟨σ', H', I, q⟩ := h; exact ⟨σ', H', I.unhand ok, q⟩
  | brk => obtain ⟨σ', H', I, q⟩ := h; exact ⟨σ', H', I.unhand ok, q⟩
  | cont => obtain ⟨σ', H', I, q⟩ := h; exact ⟨σ', H', I.unhand ok, q⟩
  | ret u => obtain ⟨v, σ', H', I, r, q⟩ := h; exact ⟨v, σ', H', I.unhand ok, r, q⟩
end
def lookE (X : Cx) (hs : List ExceptHandler) (pins : List (Addr × Obj)) (D : Ends) : Value → Shared → Prop := fun e s1 =>
  wpAny (model X.prog X.w) X.A (noteFrame e X.env) (fun _ s2 => wpAny (model X.prog X.w) X.A (setFlight e none) (fun _ s3 => wpAny (model X.prog X.w) X.A (handleBy e X.env hs) (SP X pins D) X.xe s3) X.xe s2) X.xe s1
abbrev Cx.tryX (X : Cx) (hs : List ExceptHandler) (pins : List (Addr × Obj)) (D : Ends) : Cx := { X with xe := lookE X hs pins D, pn := X.pn ++ pins }
section
variable {X : Cx} {pins pins' : List (Addr × Obj)} {σ : St} {H : Hp} {s : Shared} {hs : List ExceptHandler} {D : Ends}
theorem Inv.intry (I : Inv X pins σ H s) : Inv (X.tryX hs pins D) [] σ H s :=
  ⟨⟨I.ok.mod, I.ok.kind, I.ok.glob, I.ok.blt, I.ok.above, I.ok.inj, I.ok.has, I.ok.cab, I.ok.hd, I.ok.frames, I.ok.stk, I.ok.exf, I.ok.bs, I.ok.bsz, I.ok.noex, I.ok.exfs, I.ok.funs, I.ok.frf⟩, I.os, I.bare, I.base, I.loc, I.cell, I.free, I.freeC, fun p hp => I.pin p (by rw [List.append_nil] at hp; exact hp), I.hok, I.len⟩
theorem Inv.outtry (I : Inv (X.tryX hs pins D) pins' σ H s) : Inv X pins σ H s :=
  ⟨⟨I.ok.mod, I.ok.kind, I.ok.glob, I.ok.blt, I.ok.above, I.ok.inj, I.ok.has, I.ok.cab, I.ok.hd, I.ok.frames, I.ok.stk, I.ok.exf, I.ok.bs, I.ok.bsz, I.ok.noex, I.ok.exfs, I.ok.funs, I.ok.frf⟩, I.os, I.bare, I.base, I.loc, I.cell, I.free, I.freeC, fun p hp => I.pin p (List.mem_append_left _ hp), I.hok, I.len⟩
theorem SP.outtry {D' : Ends} {f : Flow} {s' : Shared} (h : SP (X.tryX hs pins D) pins' D' f s') : SP X pins D' f s' := by
  cases f with
  | next => obtain ⟨σ', H', I, q⟩ := h; exact ⟨σ', H', I.outtry, q⟩
  | brk => obtain ⟨σ', H', I, q⟩ := h; exact ⟨σ', H', I.outtry, q⟩
  | cont => obtain ⟨σ', H', I, q⟩ := h; exact ⟨σ', H', I.outtry, q⟩
  | ret u => obtain ⟨v, σ', H', I, r, q⟩ := h; exact ⟨v, σ', H', I.outtry, r, q⟩
theorem ps_try {body : List Stmt} {h0 : ExceptHandler} {hs : List ExceptHandler} {pos : Pos} {tb : Ends → TS} (hb : ∀ pins D, PSs (X.tryX (h0 :: hs) pins D) body (tb D)) : PS X (.Try body (h0 :: hs) [] [] pos) (fun D σ H => tb D D σ H) := by
  intro pins s σ H D I h
  refine wpAny_Try_except (wpAny_mono (hb pins D [] s σ H D I.intry h) (fun f s1 q => ?_) fun _ _ z => z)
  have q' := q.outtry
  cases f with
  | next => exact wpAny_execs_nil q'
  | brk => exact q'
  | cont => exact q'
  | ret u => exact q'
end
def catchE (K : PySem.W.Frag) (c : Value) (th : TS) (D : Ends) : XK := fun cls _ H => PySem.W.exmOne K cls c = some true ∧ ∀ σ : St, th D σ H
theorem frame_of {X : Cx} (ok : X.Ok) (hst : X.stack = X.env :: X.outer) : X.A.frames = some (X.env :: X.outer) ∧ ∃ L, X.env.frame = some L := by
  refine ⟨by rw [← hst]; exact ok.frames, ?_⟩
  rcases ok.stk with z | z
  · rw [hst] at z
    exact absurd (congrArg List.length z) (by simp)
  · exact ⟨_, z.2⟩
theorem catch_pass {X : Cx} {pc : Option Value → Prop} {c : Value} {y : Str} {np hpos : Pos} {b₀ : Stmt} {suite : List Stmt} {th : TS} (pins : List (Addr × Obj)) (D : Ends) (hst : X.stack = X.env :: X.outer) (hg : Gl X y) (hm : X.mg y = some c)
    (hh : ∀ a, PSs (X.hand a) (b₀ :: suite) th) (hd : (y == ("__debug__" : Str)) = false := by decide) :
    Passes (CXG pc X.prog X.w) (X.tryX [.ExceptHandler (some (.Name y np)) none (b₀ :: suite) hpos] pins D) (catchE X.K c th D) := by
  intro pins' σ H s e s' J hq
  have I : Inv X pins σ H s := J.outtry
  obtain ⟨x, cls, a0, dd, c2, H', B, rfl, _, q, he, hs⟩ := hq
  obtain ⟨frm, L, hL⟩ := frame_of I.ok hst
  have q : XSt X.prog X.w X.stack H s H' B x cls a0 dd c2 s' := q
  have fly : Heap.FlyingW B (X.env :: X.outer) x cls a0 s'.heap := by rw [← hst]; exact q.fly
  refine wpAny_looks_onW frm hL fly fun h4 held up4 => wpAny_landsW held fun h5 fl5 up5' => ?_
  have up5 := up4.trans up5'
  have I5 := I.flown q (by rw [hst]; exact fl5) up5
  have ty : PySem.W.Looks (model X.prog X.w) h5 (typeOf (.ref x)) cls := by
    obtain ⟨ob, hob, hc⟩ := fl5.there
    subst hc
    exact (PySem.W.Looks.ld hob).andThen .now
  refine wpAny_handleBy_cons (codeAny_handlers_test ?_) (by intro z; cases z)
  have J5 := I5.hand x
  refine ld_glob (X := X.hand x) J5 hg hm ?_ hd
  refine (PySem.W.exm_one J5.kIn ty he).here ?_
  dsimp only
  rw [if_pos rfl]
  dsimp only
  refine codeAny_handlers_suite (lands_againW fl5 fun h6 fl6 up6 => ?_)
  have I6 := I.flown q (by rw [hst]; exact fl6) (up5.trans up6)
  refine wpAny_mono (hh x pins _ σ H' D (I6.hand x) (hs σ)) (fun f s2 hf => ?_) (fun _ _ z => False.elim z)
  exact SP.unhand I.ok hf
abbrev Cx.handAs (X : Cx) (pins : List (Addr × Obj)) (a : Addr) (o : Obj) : Cx := { X with A := X.A.mark (some (.ref a)), calm := false, xe := fun _ _ => False, pn := X.pn ++ pins ++ [(a, o)] }
section
variable {X : Cx} {pins pins' : List (Addr × Obj)} {σ : St} {H : Hp} {s : Shared}
theorem Inv.handAs {a : Addr} {o : Obj} (I : Inv X pins σ H s) (h1 : s.heap.get? a = some o) (h2 : H a = none) (h3 : a ≠ X.env.locals) (h4 : a ∉ X.fs) (h5 : ∀ v, o.data ≠ .cell v) : Inv (X.handAs pins a o) [] σ H s :=
  ⟨⟨I.ok.mod, I.ok.kind, I.ok.glob, I.ok.blt, I.ok.above, I.ok.inj, I.ok.has, I.ok.cab, (fun z => nomatch z), I.ok.frames, I.ok.stk, I.ok.exf, I.ok.bs, I.ok.bsz, I.ok.noex, I.ok.exfs, I.ok.funs, I.ok.frf⟩, I.os, I.bare, I.base, I.loc, I.cell, I.free, I.freeC, fun p hp => by
    rw [List.append_nil] at hp
    rcases List.mem_append.mp hp with z | z
    · exact I.pin p z
    · have e : p = (a, o) := by simpa using z
      subst e
      exact ⟨h1, h2, h3, h4, h5⟩, I.hok, I.len⟩
theorem Inv.unhandAs {a : Addr} {o : Obj} (ok : X.Ok) (I : Inv (X.handAs pins a o) pins' σ H s) : Inv X pins σ H s :=
  ⟨ok, I.os, I.bare, I.base, I.loc, I.cell, I.free, I.freeC, fun p hp => I.pin p (List.mem_append_left _ (List.mem_append_left _ hp)), I.hok, I.len⟩
theorem Inv.lose {h' : Heap} {m' : Str → Option Value} {t' : Nat} (I : Inv X pins σ H s) (hn : h'.Ns X.env.locals m') (hs : Heap.SameBut X.env.locals s.heap h') : Inv X pins (List.replicate X.N.length none) H { s with heap := h', toks := t' } := by
  have low : ∀ b o, X.s₀.heap.get? b = some o → b ≠ X.env.locals := fun b o e => Nat.ne_of_lt (Nat.lt_of_lt_of_le (Heap.lt_size e) I.ok.above)
  refine ⟨I.ok, I.os, I.bare, ⟨fun b o e n hb hx => ?_, fun b o e n hb hx => ?_, I.base.free, fun b o e hx => ?_, I.base.tups, I.base.frzs, I.base.tbls⟩, ⟨m', hn, fun j y v' e1 e2 e3 => ?_⟩, fun y c e => ?_, I.free, I.freeC, fun p hp => ?_, fun b ob e => ?_, by rw [List.length_replicate]⟩
  · exact (hs.2 b (low b o e)).trans (I.base.keep b o e n hb hx)
  · obtain ⟨sl, e1⟩ := I.base.slot b o e n hb hx
    exact ⟨sl, (hs.2 b (low b o e)).trans e1⟩
  · obtain ⟨o', e1⟩ := I.base.there b o e hx
    exact ⟨o', (hs.2 b (low b o e)).trans e1⟩
  · rw [List.getElem?_replicate] at e2
    split at e2 <;> cases e2
  · obtain ⟨w', z⟩ := I.cell y c e
    exact ⟨w', z.sameBut hs (I.cne y c e)⟩
  · obtain ⟨e, n, ne, nf, dd⟩ := I.pin p hp
    exact ⟨(hs.2 p.1 ne).trans e, n, ne, nf, dd⟩
  · refine (I.hok b ob e).stay (fun c w' hc q => (hs.2 c ?_).trans q) (fun _ q => q) fun _ _ q => q
    rintro rfl
    rcases hc with rfl | hc
    · rw [I.free] at e; cases e
    · rw [I.free] at hc; cases hc
end
def catchAs (K : PySem.W.Frag) (c : Value) (i : Nat) (th : Addr → Obj → TS) (D : Ends) : XK := fun cls dd H => PySem.W.exmOne K cls c = some true ∧
  ∀ (σ : St) (x : Addr) (o : Obj), o.cls = cls → o.dict = dd → (∃ vs, o.data = .fields vs) → H x = none → i < σ.length → th x o { nx := fun _ _ => False, rt := D.rt } (σ.set i (some (.ref x))) H
theorem catch_as {X : Cx} {pc : Option Value → Prop} {c : Value} {y nm : Str} {i : Nat} {np hpos : Pos} {b₀ : Stmt} {suite : List Stmt} {th : Addr → Obj → TS} (pins : List (Addr × Obj)) (D : Ends) (hst : X.stack = X.env :: X.outer) (hg : Gl X y) (hm : X.mg y = some c)
    (hN : X.N.Nodup) (hi : X.N[i]? = some nm) (hl : X.env.scope.names.lookup nm = some .local)
    (hh : ∀ a o, PSs (X.handAs pins a o) (b₀ :: suite) (th a o)) (hd : (y == ("__debug__" : Str)) = false := by decide) :
    Passes (CXG pc X.prog X.w) (X.tryX [.ExceptHandler (some (.Name y np)) (some nm) (b₀ :: suite) hpos] pins D) (catchAs X.K c i th D) := by
  intro pins' σ H s e s' J hq
  have I : Inv X pins σ H s := J.outtry
  obtain ⟨x, cls, a0, dd, c2, H', B, rfl, _, q, he, hs⟩ := hq
  obtain ⟨frm, L, hL⟩ := frame_of I.ok hst
  have q : XSt X.prog X.w X.stack H s H' B x cls a0 dd c2 s' := q
  have fly : Heap.FlyingW B (X.env :: X.outer) x cls a0 s'.heap := by rw [← hst]; exact q.fly
  refine looks_onD frm hL fly q.dct fun h4 held up4 dk4 => landsD held dk4 fun h5 fl5 up5' dk5 => ?_
  have up5 := up4.trans up5'
  have I5 := I.flown q (by rw [hst]; exact fl5) up5
  have ty : PySem.W.Looks (model X.prog X.w) h5 (typeOf (.ref x)) cls := by
    obtain ⟨ob, hob, hc⟩ := fl5.there
    subst hc
    exact (PySem.W.Looks.ld hob).andThen .now
  refine wpAny_handleBy_cons (codeAny_handlers_test ?_) (by intro z; cases z)
  have J5 := I5.hand x
  refine ld_glob (X := X.hand x) J5 hg hm ?_ hd
  refine (PySem.W.exm_one J5.kIn ty he).here ?_
  dsimp only
  rw [if_pos rfl]
  dsimp only
  refine codeAny_handlers_suite_as (againD fl5 dk5 fun h6 fl6 up6 dk6 => ?_)
  have I6 := I.flown q (by rw [hst]; exact fl6) (up5.trans up6)
  obtain ⟨oe, ws, hoe, hoec, hoed, _⟩ := fl6.first
  have ff : h6.FunFrames B (X.env :: X.outer) := fl6.2.2.1
  have ne : x ≠ X.env.locals := fun z => by
    obtain ⟨m, ⟨ol, es, ep, e1, e2, _⟩, _⟩ := I6.loc
    rw [← z] at e1
    have e1' : h6.get? x = some ol := e1
    rw [hoe] at e1'
    cases e1'
    rw [hoed] at e2; cases e2
  have nf : x ∉ X.fs := fun z => by
    have z' : x ∈ (X.env :: X.outer).filterMap (·.frame) := by
      obtain ⟨en, g1, g2⟩ := List.mem_filterMap.mp z
      exact List.mem_filterMap.mpr ⟨en, List.mem_cons_of_mem _ g1, g2⟩
    obtain ⟨_, o', e', nfl⟩ := ff.mem z'
    rw [hoe] at e'; cases e'
    exact nfl _ hoed
  have I7 := I6.handAs (a := x) (o := oe) hoe q.free ne nf (fun v z => by rw [hoed] at z; cases z)
  have lenσ : i < σ.length := by rw [I.len]; exact (List.getElem?_eq_some_iff.mp hi).1
  refine store_ok (X := X.handAs pins x oe) (i := i) (v := .ref x) I7 hN hi (.inl hl) rfl (fun s8 I8 => ?_) (.inr hl)
  refine wpAny_mono (hh x oe [] _ _ H' _ I8 (hs σ x oe hoec (dk6.2 oe hoe).1 ⟨_, hoed⟩ q.free lenσ)) (fun f s9 hf => ?_) (fun _ _ z => False.elim z)
  cases f with
  | ret u =>
    obtain ⟨v, σ', H9, I9, r, q9⟩ := hf
    have J9 : Inv X pins σ' H9 s9 := I9.unhandAs I.ok
    obtain ⟨m, hn, _⟩ := J9.loc
    refine wpAny_nameGoes hl hn (by rw [I.ok.kind]; rfl) fun h' m' hn' hsb => ?_
    exact ⟨v, _, H9, J9.lose hn' hsb, r, q9⟩
  | next => obtain ⟨_, _, _, z⟩ := hf; exact False.elim z
  | brk => obtain ⟨_, _, _, z⟩ := hf; exact False.elim z
  | cont => obtain ⟨_, _, _, z⟩ := hf; exact False.elim z
section
variable {prog : Program} {w : World} {A : Around} {E : Value → Shared → Prop} {s : Shared} {Q : Value → Shared → Prop} {K : PySem.W.Frag}
open PySem.W in
theorem yes_ans {x : Addr} {o : Obj} {c : Value} (e : kitOne K o.cls c = some true) : Answers (fun s => K.In s.heap ∧ s.heap.get? x = some o) (.ref x) c true := by
  intro dep tk prog w A R s hs
  obtain ⟨h0, g, d, tt, os⟩ := s
  obtain ⟨⟨X, p⟩, hq⟩ := hs
  have LT : Looks (model prog w) h0 (typeOf (.ref x)) o.cls := (Looks.ld p).andThen .now
  unfold kitOne at e
  unfold Builtin.«isinstance.nested»
  refine wpAny_bind (LT.at ?_)
  by_cases q : (o.cls == c) = true
  · rw [if_pos q]
    first
      | ((repeat lk); exact hq tt)
      | exact wpAny_bind (wpAny_rule (hq tt))
      | exact wpAny_bind (wpAny_rule (wpAny_pure (hq tt)))
  · rw [if_neg q] at e
    rw [if_neg q]
    obtain ⟨hty, his, hsub⟩ := kit_cls (M := model prog w) X e
    have LI : Looks (model prog w) h0 (isInstance (.ref x) c) true := LT.andThen hsub
    refine wpAny_bind (hty.at ?_)
    rw [if_pos (by decide)]
    k_delta "plainIsInstance"
    refine wpAny_bind (wpAny_bind (his.at ?_))
    simp only [Bool.not_true, Bool.false_eq_true, if_false]
    refine wpAny_bind (LI.at ?_)
    first
      | exact wpAny_pure (wpAny_pure (hq tt))
      | (simp only [if_true]; first | exact wpAny_pure (wpAny_pure (hq tt)) | exact wpAny_pure (hq tt) | exact wpAny_bind (wpAny_pure (wpAny_pure (hq tt))))
open PySem.W in
theorem isinst_yes {x : Addr} {o : Obj} {c : Value} (X : K.In s.heap) (ho : s.heap.get? x = some o) (e : kitOne K o.cls c = some true) (h : ∀ tk, Q (.bool true) { s with toks := tk }) : wpAny (model prog w) A (call (.builtin "isinstance") [.ref x, c]) Q E s :=
  call_isinstance (S := fun _ R s => (K.In s.heap ∧ s.heap.get? x = some o) ∧ ∀ tk, R (.ok (.ret (.bool true))) { s with toks := tk })
    (fun prog w A R s hs => isinstance_outer (yes_ans e 0 _ prog w A R s hs) (by intro q; cases q)) ⟨⟨X, ho⟩, h⟩
end
theorem call_isExc {X : Cx} {K : PySem.W.Frag} {x : Addr} {o : Obj} (hK : X.K = K) (hp : (x, o) ∈ X.pn) : CallR X (.builtin "isinstance") (fun xs H Q => ∃ n, xs = [.ref x, .ty n] ∧ PySem.W.kitOne K o.cls (.type n) = some true ∧ Q (.bl true) H) := by
  subst hK
  intro pins s σ H xs us Q I r h
  obtain ⟨n, rfl, e, q⟩ := h
  obtain ⟨u, w', rfl, rx, ry⟩ := vals2 r
  obtain rfl : w' = Value.type n := ry
  cases rx
  exact isinst_yes I.kIn (I.pin (x, o) (List.mem_append_left _ hp)).1 e fun tk => ⟨.bl true, H, I.tok tk, rfl, q⟩
end L2
namespace L2
open PySem PySem.Spec PyProof.Rows
section
variable {prog : Program} {w : World} {A : Around} {E : Value → Shared → Prop} {h : Heap} {g : Array GenState} {d : Drawn} {t : Nat} {os : OsState}
variable {nm q : Str} {C N : Addr} {bs bm bmB : List Value} {hdct : Bool} {sn : List Str} {sub : List Value} {ab : Bool} {col : Option Bool} {dd : Option Addr} {k0 k1 k2 k3 k5 : Option Value} {B newId initId : String}
abbrev laidExc (h : Heap) (C : Addr) (us : List Value) : Heap := (h.push { cls := .type "tuple", data := .seq us.toArray }).push { cls := .ref C, data := .fields #[.ref h.objs.size, .none, .none, .none, .bool false, .none] }
theorem made_init (F : ExcBaseFacts B newId initId bmB) (T : OwnTail h bmB bm) {mN : Str → Option Value} {us : List Value} {fI : Addr} {oI : Obj} {Q : Fin → Shared → Prop}
    (hC : h.get? C = some (excClassObj nm q C N bs bm hdct sn sub ab col dd k0 k1 k2 k3 k5 newId)) (hn : h.Ns N mN) (hi : mN "__init__" = some (.ref fI)) (hfI : h.get? fI = some oI) (hfc : oI.cls = .type "function")
    (hq : ∀ h' e, Heap.MadeExcOf h h' e (.ref C) us → h.objs.size ≤ e → wpAny (model prog w) A (call (.ref fI) (.ref e :: us)) (fun r s' => r = .none ∧ Q (.done (.ret (.ref e))) s') E ⟨h', g, d, t, os⟩) (hz : us.length ≤ sizeLine) :
    wpAny (model prog w) A (Builtin.«type.__call__» ⟨.ref C :: us, []⟩) Q E ⟨h, g, d, t, os⟩ := by
  repeat (first | with_reducible refine wpAny_madeBy_exc hC ?_ | with_reducible refine wpAny_loadPart_at hC ?_ | wp_step)
  refine codeAny_call_builtin_code (Code.quiet_builtin _ F.quiet) (wpAny_check_new_subT F T hC (codeAny_exc_new_subT F T hC ?_ hz))
  show wpAny _ _ _ _ _ _
  have kp : ∀ b o, h.get? b = some o → (laidExc h C us).get? b = some o := fun b o e => Heap.get?_push_of_some _ (Heap.get?_push_of_some _ e)
  have hC₁ := kp _ _ hC
  have hf₁ := kp _ _ hfI
  have hn₁ := hn.keeps kp
  have T₁ := T.keeps kp
  have hx : (laidExc h C us).get? (h.objs.size + 1) = some { cls := .ref C, data := .fields #[.ref h.objs.size, .none, .none, .none, .bool false, .none] } := by heap_get
  have hself : (Value.ref C :: bm).contains (.ref C) = true := by simp
  unfold isInstance
  repeat (first | (with_reducible refine wpAny_isSubtype_exc hC₁ ?_; rw [hself]) | with_reducible refine wpAny_loadPart_at hx ?_ | wp_step)
  show wpAny _ _ (typeLookup (.ref C) _) _ _ _
  refine wpAny_typeLookup_tail hC₁ hn₁ T₁ F.mroIs F.init.lookup ?_
  rw [hi]
  refine wpAny_holding (wpAny_bind ?_)
  unfold bindSpecial
  refine wpAny_bind (wpAny_typeOf (T := "function") ⟨_, hf₁, hfc⟩ ?_)
  rw [if_pos (by decide)]
  refine wpAny_pure (wpAny_bind (wpAny_mono (hq _ (h.objs.size + 1) ⟨kp, Heap.get?_none_of_le (Nat.le_succ _), h.objs.size, hx, Heap.get?_none_of_le (Nat.le_refl _), Heap.get?_push_of_some _ (Heap.get?_push_at rfl rfl)⟩ (Nat.le_succ _)) (fun r s' hr => ?_) fun _ _ x => x))
  obtain ⟨rfl, hQ⟩ := hr
  wp_walk
  exact hQ
theorem call_init (F : ExcBaseFacts B newId initId bmB) (T : OwnTail h bmB bm) {mN : Str → Option Value} {us : List Value} {fI : Addr} {oI : Obj} {Q : Value → Shared → Prop}
    (hC : h.get? C = some (excClassObj nm q C N bs bm hdct sn sub ab col dd k0 k1 k2 k3 k5 newId)) (hn : h.Ns N mN) (hi : mN "__init__" = some (.ref fI)) (hfI : h.get? fI = some oI) (hfc : oI.cls = .type "function")
    (hq : ∀ h' e, Heap.MadeExcOf h h' e (.ref C) us → h.objs.size ≤ e → wpAny (model prog w) (A.under (.builtin "type.__call__" ⟨.ref C :: us, []⟩)) (call (.ref fI) (.ref e :: us)) (fun r s' => r = .none ∧ Q (.ref e) s') E ⟨h', g, d, t, os⟩) (hz : us.length ≤ sizeLine) :
    wpAny (model prog w) A (call (.ref C) us) Q E ⟨h, g, d, t, os⟩ := by
  have t1 := tc_lookup
  have t2 := tc_bind (.ref C)
  have t3 : (⟨h, g, d, t, os⟩ : Shared).TypeIs (.ref C) "type" := ⟨_, hC, rfl⟩
  refine wpAny_call (codeAny_of_tree ?_)
  show wpAny _ _ (callAny (.ref C) _) _ _ _
  repeat (any_goals (first | with_reducible refine wpAny_loadPart_at hC ?_ | assumption | wp_step))
  refine ⟨rfl, codeAny_call_builtin_at (Code.quiet_builtin _ (by decide +kernel)) entry_typeCall (wpAny_check_type_call_sub hC (made_init F T hC hn hi hfI hfc (fun h' e hm hs => ?_) hz))⟩
  exact hq h' e hm hs
end
end L2
namespace L2
open PySem PySem.Spec PyProof.Rows
structure XCls (K : PySem.W.Frag) (C D : Addr) : Prop where
  cls : ∃ cd, PySem.W.clsIn K C = some cd ∧ cd.mro = .ref C :: .ref D :: bmV ∧ cd.hasDict = true
  sa : PySem.W.findIn K (.ref C) "__setattr__" = some (some (.builtin "object.__setattr__"))
section
variable {prog : Program} {w : World} {A : Around} {E : Value → Shared → Prop} {h : Heap} {g : Array GenState} {d : Drawn} {t : Nat} {os : OsState} {K : PySem.W.Frag} {C D x : Addr} {o : Obj} {name : Str} {v : Value}
theorem store_first {Q : Unit → Shared → Prop} (X : K.In h) (c : XCls K C D) (hx : h.get? x = some o) (hc : o.cls = .ref C) (hd : o.dict = none) {vs : Array Value} (hf : o.data = .fields vs) (hna : PySem.W.findIn K (.ref C) name = some none)
    (hq : ∀ h' tk' dx, h.objs.size ≤ dx → h'.get? x = some { o with dict := some dx } → h'.Ns1 dx (fun y => if y = name then some v else none) → (∀ b o, b ≠ x → h.get? b = some o → h'.get? b = some o) → Q () ⟨h', g, d, tk', os⟩) :
    wpAny (model prog w) A (setAttr (.ref x) name v) Q E ⟨h, g, d, t, os⟩ := by
  have SF := PySem.F.store_object
  obtain ⟨cd, c1, c2, c3⟩ := c.cls
  have ty : PySem.W.Looks (model prog w) h (typeOf (.ref x)) (.ref C) := by rw [← hc]; exact (PySem.W.Looks.ld hx).andThen .now
  have f3 := SF.slot.bind (.ref x)
  have mr : PySem.W.Looks (model prog w) h (mroOf (.ref C)) cd.mro := (PySem.W.looks_clsIn X c1).andThen .now
  have sub : PySem.W.Looks (model prog w) h (isInstance (.ref x) (.type "object")) true := ty.andThen (PySem.W.looks_mroIn X (by
    unfold PySem.W.mroIn
    rw [c1, Option.bind_some, c2]
    rfl))
  unfold setAttr callSpecial? specialOf
  refine wpAny_bind (wpAny_mkText ?_)
  refine wpAny_bind (wpAny_bind (wpAny_bind (ty.here ((PySem.W.looks_findIn X c.sa).here ?_))))
  dsimp only
  refine wpAny_holding (wpAny_bind ?_)
  rw [f3]
  refine wpAny_pure (wpAny_bind (wpAny_call ?_))
  refine codeAny_call_builtin SF.slot.plain SF.entry (@PySem.W.check_slot (model prog w) _ _ _ "object.__setattr__" "object" "__setattr__" (.ref x) [.str name t, v] [] _ SF.kind SF.split sub (SF.args (.ref x) (.str name t) v) ?_)
  show wpAny _ _ (Builtin.«object.__setattr__» ⟨[.ref x, .str name t, v], []⟩) _ _ _
  rw [PySem.W.osa_eq, refuse_eq]
  refine wpAny_bind (wpAny_bind (ty.here (wpAny_bind (mr.here ?_))))
  rw [c2, refuseLoop_ref, refuseLoop_ref, PySem.F.store_ValueError.passes]
  refine wpAny_pure (wpAny_bind (ty.here (wpAny_bind ((PySem.W.looks_findIn X hna).here (wpAny_bind (wpAny_pure ?_))))))
  dsimp only
  obtain ⟨oc, odi, oda, osl⟩ := o
  dsimp only at hc hd hf
  subst hc hd hf
  unfold Builtin.ObjectAttr.storeInOwnDict
  refine wpAny_bind (wpAny_pure ?_)
  rw [if_neg (by simp)]
  refine wpAny_bind ?_
  unfold Builtin.ObjectAttr.ownDictForStores instanceDict
  refine wpAny_bind (wpAny_loadPart hx ?_)
  dsimp only
  refine wpAny_bind ((PySem.W.looks_clsIn X c1).here ?_)
  rw [c3, if_neg (by decide), if_neg (by simp [typeHasDict])]
  have hxs : x ≠ h.objs.size := Nat.ne_of_lt (Heap.lt_size hx)
  have hx₁ : (h.push { cls := .type "dict", data := .dict #[] }).get? x = some { cls := .ref C, data := .fields vs, slots := osl } := Heap.get?_push_of_some _ hx
  refine wpAny_bind (wpAny_alloc' (wpAny_bind (wpAny_update' hx₁ (wpAny_pure ?_))))
  have hgd : ((h.push { cls := .type "dict", data := .dict #[] }).update x fun o => { cls := o.cls, dict := some h.objs.size, data := o.data, slots := o.slots }).get? h.objs.size = some { cls := .type "dict", data := .dict #[] } :=
    (Heap.get?_update_ne _ _ _ _ hxs.symm).trans (Heap.get?_push_at rfl rfl)
  have hnd : ((h.push { cls := .type "dict", data := .dict #[] }).update x fun o => { cls := o.cls, dict := some h.objs.size, data := o.data, slots := o.slots }).Ns h.objs.size (fun _ => none) :=
    ⟨_, #[], _, hgd, rfl, fun e he => absurd he (by simp), fun _ => rfl⟩
  show wpAny _ _ (Builtin.ObjectAttr.storeInDict h.objs.size (.str name t) name v) _ _ _
  unfold Builtin.ObjectAttr.storeInDict Builtin.ObjectAttr.newKeyGuard
  refine wpAny_bind (wpAny_pure (wpAny_bind (wpAny_nsSet1 (Heap.Ns1.of_empty hnd) fun h' hn' hs => ?_)))
  obtain ⟨oD, esD, epD, hoD, hdD, hcD⟩ := hn'.count (Within.cons name v Within.nil)
  refine wpAny_bind (wpAny_lookBehind hoD (by rw [hdD]; exact pastItsLine_dict (Nat.le_trans hcD (by rw [List.length_cons, List.length_nil, sizeLine_eq]; omega))) ?_)
  refine wpAny_pure (wpAny_pure (wpAny_pure (hq h' _ h.objs.size (Nat.le_refl _) ?_ hn' fun b ob hb e => ?_)))
  · exact (hs.2 x hxs).trans (Heap.get?_update_self _ hx₁ rfl)
  · exact (hs.2 b (Nat.ne_of_lt (Heap.lt_size e))).trans ((Heap.get?_update_ne _ _ _ _ hb).trans (Heap.get?_push_of_some _ e))
end
theorem upd_id {H : Hp} {a : Addr} {o : HO} (e : H a = some o) : upd H a o = H := by
  funext b
  unfold upd
  split
  · rename_i q; rw [q, e]
  · rfl
theorem Un.track {fs ex : List Addr} {H H1 : Hp} {h h' : Heap} {dx : Addr} {o : HO} (u : Un fs ex H H1 h h') (hp : h.objs.size ≤ dx) (hn : H dx = none) : Un fs ex H (upd H1 dx o) h h' where
  keep := u.keep
  slot := u.slot
  free := fun b ob q n hx => by rw [upd_ne (Nat.ne_of_lt (Nat.lt_of_lt_of_le (Heap.lt_size q) hp))]; exact u.free b ob q n hx
  there := u.there
  tups := fun b xs q => by rw [upd_ne (ne_of_none q hn)]; exact u.tups b xs q
  frzs := fun b ob xs q => by rw [upd_ne (ne_of_none q hn)]; exact u.frzs b ob xs q
  tbls := fun b ps q => by rw [upd_ne (ne_of_none q hn)]; exact u.tbls b ps q
theorem HOk.track {P : Program} {w : World} {H : Hp} {h : Heap} {dx : Addr} {o : HO} (x : HOk P w H h) (hn : H dx = none) (new : ObjOk P w (upd H dx o) h dx o) : HOk P w (upd H dx o) h := fun b u e => by
  by_cases q : b = dx
  · subst q; rw [upd_same] at e; cases e; exact new
  · rw [upd_ne q] at e
    exact (x b u e).stay (fun _ _ _ z => z) (fun c z => by rw [upd_ne (ne_of_none z hn)]; exact z) fun c xs z => by rw [upd_ne (ne_of_none z hn)]; exact z
def sXFld (C : Addr) (ta tv : TE) (f : Str) : TS := fun Dd σ H => tv σ H fun y H1 => ta σ H1 fun x H2 => ∃ a, x = .ref a ∧ H2 a = some (ExcH a C none) ∧ ∀ dx, H2 dx = none → dx ≠ a → Dd.nx σ (upd (upd H2 a (ExcH a C (some dx))) dx (.xd [(f, y)]))
section
variable {X : Cx} {o value : Expr} {f : Str} {pos pos' : Pos} {ta tv : TE} {C D : Addr}
theorem ps_xfld (c : XCls X.K C D) (n : NoAttr X.K C f) (ha : PE X o ta) (hv : PE X value tv) (hs : swapsWith value (some (.Attribute o f pos')) pos.line X.env = pure false) : PS X (.Assign [.Attribute o f pos'] value pos) (sXFld C ta tv f) := by
  intro pins s σ H Dd I h
  refine plainObj_wpAny_Assign_Attribute (thn (hv pins s σ H _ I h) fun u s1 ⟨y, H1, I1, ry, q⟩ => thn (ha pins s1 σ H1 _ I1 q) fun ov s2 ⟨x, H2, I2, rx, a, ex, ea, q2⟩ => ?_) hs
  subst ex
  obtain rfl : ov = Value.ref a := rx
  obtain ⟨t, eo⟩ := ExcH.get I2.hok ea
  refine store_first I2.kIn c eo rfl rfl rfl n fun h' tk' dx hdx hx' ns k => ?_
  have hn : H2 dx = none := I2.hok.fresh hdx
  have ne : dx ≠ a := fun z => by rw [z] at hn; rw [hn] at ea; cases ea
  have mu : Mut (H2 a) := by rw [ea]; exact True.intro
  have kk : ∀ b u, b ≠ a → s2.heap.get? b = some u → h'.get? b = some u := fun b u hb q => k b u hb q
  have hok1 : HOk X.prog X.w (upd H2 a (ExcH a C (some dx))) h' := I2.hok.write mu (.inl rfl) kk ⟨_, hx'⟩ (ExcH.ok hx')
  have un1 : Un X.fs [] H2 (upd H2 a (ExcH a C (some dx))) s2.heap h' := Un.write mu (.inl rfl) kk ⟨_, hx'⟩
  refine ⟨σ, _, I2.un (h' := h') (t' := tk') (un1.track hdx hn) (hok1.track (o := .xd [(f, y)]) (by rw [upd_ne ne]; exact hn) ⟨_, ns, fun z => ?_⟩), q2 dx hn ne⟩
  show RelO (List.lookup z [(f, y)]) (if z = f then some u else none)
  by_cases q : z = f
  · subst q; simp [List.lookup]; exact ry
  · rw [if_neg q]
    have : (z == f) = false := by simpa using q
    simp [List.lookup, this, RelO]
end
end L2
namespace L2
open PySem PySem.Spec PyProof.Rows
structure XGet (K : PySem.W.Frag) (C : Addr) : Prop where
  ga : PySem.W.findIn K (.ref C) "__getattribute__" = some (some (.builtin "BaseException.__getattribute__"))
  gr : PySem.W.findIn K (.ref C) "__getattr__" = some none
section
variable {prog : Program} {w : World} {A : Around} {E : Value → Shared → Prop} {h : Heap} {g : Array GenState} {d : Drawn} {t : Nat} {os : OsState} {K : PySem.W.Frag} {C D x dx : Addr} {o : Obj} {name : Str} {v : Value} {mA : Str → Option Value} {vs : Array Value}
theorem load_exc {expr : Bool} {Q : Value → Shared → Prop} (X : K.In h) (c : XCls K C D) (y : XGet K C) (hx : h.get? x = some o) (hc : o.cls = .ref C) (hf : o.data = .fields vs) (hd : o.dict = some dx) (hna : PySem.W.findIn K (.ref C) name = some none)
    (ns : h.Ns1 dx mA) (hv : mA name = some v) (hh : PySem.W.handedIn v = true) (hq : Q v ⟨h, g, d, t + 1, os⟩) : wpAny (model prog w) A (getAttr (.ref x) name expr) Q E ⟨h, g, d, t, os⟩ := by
  obtain ⟨cd, c1, c2, c3⟩ := c.cls
  have ty : PySem.W.Looks (model prog w) h (typeOf (.ref x)) (.ref C) := by rw [← hc]; exact (PySem.W.Looks.ld hx).andThen .now
  have sl : Slot "ValueError" "__getattribute__" "BaseException.__getattribute__" := .of (owner := "BaseException") (n := "__getattribute__") (by rw [typeLookup_type, builtinLookup_eq_fast]; kernel_rfl) (by decide +kernel) (by decide +kernel) (by decide +kernel)
    (by first | exact .inl (by decide +kernel) | exact .inr (by decide +kernel)) (by rw [isSubtype_type]; kernel_rfl)
  have sub : PySem.W.Looks (model prog w) h (isInstance (.ref x) (.type "BaseException")) true := ty.andThen (PySem.W.looks_mroIn X (by
    unfold PySem.W.mroIn
    rw [c1, Option.bind_some, c2]
    rfl))
  have hx2 : (Value.builtin "BaseException.__getattribute__" == Value.builtin "object.__getattribute__") = false := by decide +kernel
  refine wpAny_bind (wpAny_mkText (wpAny_holding (wpAny_bind (ty.here (wpAny_bind ((PySem.W.looks_findIn X y.ga).here ?_))))))
  dsimp only
  rw [hx2, Bool.and_false, if_neg (by decide)]
  refine wpAny_bind ?_
  unfold hookBefore
  rw [if_pos (by rfl)]
  refine (PySem.W.looks_findIn X y.gr).here (wpAny_bind (wpAny_attempt (wpAny_holding ?_)))
  unfold callGetattribute
  rw [show (expr && onTheHeap (Value.builtin "BaseException.__getattribute__")) = false from Bool.and_false _, if_neg (by decide)]
  unfold boundAndCalled
  rw [sl.bind]
  refine wpAny_bind (wpAny_pure ?_)
  show wpAny _ _ (call (.builtin "BaseException.__getattribute__") [.ref x, .str name t]) _ _ _
  refine wpAny_call (codeAny_call_builtin sl.plain PySem.F.entry_bexc_ga (@PySem.W.check_slot (model prog w) _ _ _ "BaseException.__getattribute__" "BaseException" "__getattribute__" (.ref x) [.str name t] [] _ (by decide +kernel) (by decide +kernel) sub (PySem.F.args_bexc_ga (.ref x) (.str name t)) ?_))
  obtain ⟨od, eod, hl⟩ := lookIn_ns ns
  have J : PySem.W.InstAt h x o C (some od) := ⟨hx, hc, by unfold PySem.W.notCls; rw [hf], by rw [hd]; exact eod⟩
  have fo : PySem.W.findObj K C (some od) name = some (.value v) := PySem.W.findObj_own (by unfold PySem.W.hasDictIn; rw [c1]; simpa using c3) hna rfl (by rw [hl, hv])
  unfold Builtin.«object.__getattribute__»
  refine wpAny_bind (wpAny_pure ?_)
  dsimp only
  refine wpAny_bind (wpAny_pure (wpAny_bind (ty.here (wpAny_bind ((PySem.W.looks_find X J fo).here ?_)))))
  dsimp only
  refine wpAny_pure ?_
  show wpAny _ _ (handedOut v) _ _ _
  rw [PySem.W.handedOut_of hh]
  exact wpAny_pure hq
end
structure OwnI (C D fI : Addr) (base : Heap) : Prop where
  obj : ∃ N nm q bs hdct sn sub ab col dd k0 k1 k2 k3 k5 mN oI, base.get? C = some (excClassObj nm q C N bs (.ref D :: bmV) hdct sn sub ab col dd k0 k1 k2 k3 k5 "ValueError.__new__") ∧ base.Ns N mN ∧ mN "__init__" = some (.ref fI) ∧
    base.get? fI = some oI ∧ oI.cls = .type "function" ∧ OwnTail base bmV (.ref D :: bmV)
def ownIIn (K : PySem.W.Frag) (C D fI : Addr) : Bool := match K.lookup C with
  | some ⟨.type "type", _, .cls cd, sl⟩ => (match cd.mro, sl.toList with
    | .ref C' :: bm, [_, _, _, _, some (.builtin n), _] => C' == C && n == "ValueError.__new__" && !cd.hasDel && bm == (.ref D :: bmV) && PySem.W.tailIn K bmV bm && PySem.W.nsOkIn K cd.ns && PySem.W.nsIn K cd.ns "__init__" == some (some (.ref fI)) && PySem.W.isFn K (.ref fI)
    | _, _ => false)
  | _ => false
theorem ns_is {K : PySem.W.Frag} {h : Heap} {N : Addr} {m : Str → Option Value} {n : Str} {v : Value} (X : K.In h) (G : h.Ns N m) (e : PySem.W.nsIn K N n = some (some v)) : m n = some v := by
  obtain ⟨o, es, ep, ho, hd, _, hf⟩ := G
  unfold PySem.W.nsIn at e
  split at e
  · rename_i q
    have z := X _ _ q
    rw [ho] at z
    cases z; cases hd
    split at e
    · rename_i en he
      cases e
      rw [← hf]; unfold nsFind findBy; rw [← Array.find?_toList, he]; rfl
    · split at e <;> cases e
  · cases e
theorem ownI_of {K : PySem.W.Frag} {C D fI : Addr} {base : Heap} (X : K.In base) (q : ownIIn K C D fI = true) : OwnI C D fI base := by
  refine ⟨?_⟩
  unfold ownIIn at q
  split at q
  · rename_i dd cd sl ho
    split at q
    · rename_i C' bm k0 k1 k2 k3 n k5 hm hs
      simp only [Bool.and_eq_true, beq_iff_eq, Bool.not_eq_true'] at q
      obtain ⟨⟨⟨⟨⟨⟨⟨e1, e2⟩, hdel⟩, e3⟩, ht⟩, hok⟩, hi⟩, hfn⟩ := q
      subst e1 e2 e3
      obtain ⟨nm, bs, mro, ns, qn, hd, sn, sub, ab, col, del⟩ := cd
      dsimp only at hm hdel hok hi
      subst hm hdel
      have hsl : sl = #[k0, k1, k2, k3, some (.builtin "ValueError.__new__"), k5] := by
        obtain ⟨l⟩ := sl
        simp only at hs
        rw [hs]
      subst hsl
      have hns : base.Ns ns (base.nsMap ns) := .of_isNs (PySem.W.isNs_of_in X hok)
      unfold PySem.W.isFn PySem.W.typeIn at hfn
      obtain ⟨oI, a, b⟩ := Option.map_eq_some_iff.mp (beq_iff_eq.mp hfn)
      exact ⟨ns, nm, qn, bs, hd, sn, sub, ab, col, dd, k0, k1, k2, k3, k5, _, oI, X _ _ ho, hns, ns_is X hns hi, X _ _ a, b, PySem.W.tail_of_in X ht⟩
    · cases q
  · cases q
section
variable {X : Cx} {C D : Addr} {e : Expr} {f : Str} {pos : Pos} {ta : TE}
def tXAt (a : Addr) (o : Obj) (C : Addr) (ta : TE) (f : Str) : TE := fun σ H Q => ta σ H fun x H1 => ∃ dx fs v, x = .ref a ∧ o.cls = .ref C ∧ o.dict = some dx ∧ (∃ vs, o.data = .fields vs) ∧ H1 dx = some (.xd fs) ∧ fs.lookup f = some v ∧ Q v H1
theorem pe_xat {a : Addr} {o : Obj} (hp : (a, o) ∈ X.pn) (c : XCls X.K C D) (y : XGet X.K C) (n : NoAttr X.K C f) (he : PE X e ta) (hb : attributeBase e f X.env (eval e X.env) = eval e X.env) : PE X (.Attribute e f pos) (tXAt a o C ta f) := by
  intro pins s σ H Q I h
  refine attr_of hb (thn (he pins s σ H _ I h) fun u s1 ⟨x, H1, I1, rx, dx, fs, v, ex, hc, hd, ⟨vs, hf⟩, hx, hl, q⟩ => ?_)
  subst ex
  obtain rfl : u = Value.ref a := rx
  obtain ⟨mA, ns, r⟩ := (show ObjOk X.prog X.w H1 s1.heap dx (.xd fs) from I1.hok dx _ hx)
  obtain ⟨u, hu, ru⟩ := RelO.some_of (v := v) (o := mA f) (by rw [← hl]; exact r f)
  exact load_exc I1.kIn c y (I1.pin (a, o) (List.mem_append_left _ hp)).1 hc hf hd n ns hu (handed_of ru) ⟨v, H1, I1.tok _, ru, q⟩
end
end L2
namespace L2
open PySem PySem.Spec PyProof.Rows
section
variable {M : Model} {A : Around} {E : Value → Shared → Prop} {env : Env} {nm q : Str} {C N : Addr} {bs bm : List Value} {hdct : Bool} {sn : List Str} {sub : List Value} {ab : Bool} {col : Option Bool} {dd : Option Addr} {k0 k1 k2 k3 k5 : Option Value} {newId : String}
theorem raise_filled {s : Shared} {x : Sem Value} {Q : Flow → Shared → Prop} (hbase : bm.contains (.type "BaseException") = true) (hh : A.handled = none)
    (h : wpAny M A x (fun v s₁ => ∃ e t d2, v = .ref e ∧ s₁.heap.get? C = some (excClassObj nm q C N bs bm hdct sn sub ab col dd k0 k1 k2 k3 k5 newId) ∧ s₁.heap.get? e = some (excO C d2 t) ∧ E (.ref e) s₁) E s) :
    wpAny M A (raiseStmt env (some x) none) Q E s := by
  have hcB : (Value.ref C :: bm).contains (.type "BaseException") = true := by rw [List.contains_cons, hbase, Bool.or_true]
  unfold raiseStmt
  refine wpAny_bind (wpAny_mono h (fun v s₁ h₁ => ?_) fun _ _ x => x)
  obtain ⟨e, t, d2, rfl, hC, he, hE⟩ := h₁
  obtain ⟨hp, g, d, tk, os⟩ := s₁
  repeat (first | with_reducible refine wpAny_loadPart_at hC ?_ | with_reducible refine wpAny_loadPart_at he ?_ | (with_reducible refine wpAny_isSubtype_exc hC ?_; rw [hcB]) | wp_step)
  exact wpAny_raiseNew_none hh hE
end
section
variable {X : Cx} {C D fI : Addr} {fd : FuncData} {k : Nat} {E : XK}
def tMakeX (X : Cx) (C : Addr) (sp : Sp) (t : TA) : TE := fun σ H Q => t σ H fun vs H1 => vs.length ≤ sizeLine ∧ ∀ e, H1 e = none → X.s₀.heap.objs.size ≤ e →
  sp (.ref e :: vs) (upd H1 e (ExcH e C none)) (fun v H2 => v = .non ∧ Q (.ref e) H2) E0
theorem pe_makeX {x : Str} {p pos : Pos} {ex : Expr} {es : List Expr} {t : TA} {ps : List Str} {sp : Sp} (own : OwnI C D fI X.base) (kp : PySem.W.keepIn X.K (.ref C) = true) (F : FnOk X.prog X.w X.K X.mg X.base CX0 k fI fd ps sp) (hr : Room (k + 1) X.A) (hb : Binds X.K fd ps [])
    (hg : Gl X x) (hm : X.mg x = some (.ref C)) (ha : PA X (ex :: es) t) (hdb : (x == ("__debug__" : Str)) = false := by decide) (he : starEach (ex :: es) X.env = (false, eval ex X.env) :: starEach es X.env := by rfl) (hpl : (backTo pos (starEach es X.env)).any (·.1) = false := by rfl) :
    PE X (.Call (.Name x p) (ex :: es) [] pos) (tMakeX X C sp t) := by
  intro pins s σ H Q I h
  refine wpAny_Call_Name_kw (ld_glob I hg hm ?_ hdb)
  refine PySem.W.callWith_K (h₀ := X.base) I.ok.mod.kin kp (thn (ha pos pins s σ H _ I h) fun us s1 ⟨vs, H1, I1, r, hz, q⟩ => ⟨I1.kIn, ?_⟩) he hpl
  obtain ⟨N, nm, qn, bs, hdct, sn, sub, ab, col, dd, k0, k1, k2, k3, k5, mN, oI, hC, hN, hi, hf, hfc, T⟩ := own.obj
  obtain ⟨hh, g, d, tk, os⟩ := s1
  show wpAny _ _ (call (.ref C) us) _ _ _
  refine call_init PySem.F.excBase_ValueError (T.keeps I1.bk) (I1.bk _ _ hC) (hN.keeps I1.bk) hi (I1.bk _ _ hf) hfc (fun h' e hx hsz => ?_) (by rw [← r.length]; exact hz)
  obtain ⟨ta, eo, tn, et⟩ := hx.there
  have hn : H1 e = none := I1.hok.fresh hsz
  have I2 : Inv X pins σ (upd H1 e (ExcH e C none)) ⟨h', g, d, tk, os⟩ := I1.laid (t' := tk) hx.keeps hsz (ExcH.ok eo)
  have hq := q e hn (Nat.le_trans I1.sz hsz)
  have r2 : Vals (V.ref e :: vs) (Value.ref e :: us) := .cons rfl r
  have hl : (Value.ref e :: us ++ []).length = ps.length := by
    rw [List.append_nil, ← r2.length]
    exact F.len _ _ _ _ hq
  have hb' := hb ⟨h', g, d, tk, os⟩ (Value.ref e :: us) I2.kIn hl
  rw [List.append_nil] at hb'
  refine wpAny_call (codeAny_mono (F.run _ X.stack _ _ ⟨Value.ref e :: us, []⟩ (Value.ref e :: us) _ _ E0 (hr.make C us []) (I2.env0.make C us []) hb' r2 hq) fun r s' hq' => ?_)
  cases r with
  | error z => exact False.elim hq'
  | ok fl =>
    cases fl with
    | ret u =>
      obtain ⟨v, H', I3, rv, ev, q3⟩ := I2.after hq'
      subst ev
      exact ⟨rv, ⟨V.ref e, H', I3, rfl, q3⟩⟩
    | next => exact False.elim hq'
    | brk => exact False.elim hq'
    | cont => exact False.elim hq'
def tRaiseX (X : Cx) (C : Addr) (E : XK) (te : TE) : TS := fun _ σ H => te σ H fun v H1 => ∃ e dd, v = .ref e ∧ H1 e = some (ExcH e C dd) ∧ X.s₀.heap.objs.size ≤ e ∧ E (.ref C) dd (rem H1 e)
theorem ps_raiseX {pc : Option Value → Prop} {ex : Expr} {pos : Pos} {te : TE} (O : XOk pc X E) (own : OwnI C D fI X.base) (hc : X.calm = true) (he : PE X ex te) : PS X (.Raise (some ex) none pos) (tRaiseX X C E te) := by
  intro pins s σ H Dd I h
  obtain ⟨N, nm, qn, bs, hdct, sn, sub, ab, col, dd, k0, k1, k2, k3, k5, mN, oI, hC, hN, hi, hf, hfc, T⟩ := own.obj
  rw [arm_exec_Raise]
  simp only [evalOpt, Option.map]
  refine wpAny_bind (wpAny_standAt (raise_filled (C := C) (nm := nm) (q := qn) (N := N) (bs := bs) (bm := .ref D :: bmV) (hdct := hdct) (sn := sn) (sub := sub) (ab := ab) (col := col) (dd := dd) (k0 := k0) (k1 := k1) (k2 := k2) (k3 := k3) (k5 := k5) (newId := "ValueError.__new__") (T.hasType PySem.F.excBase_ValueError.hasBase) (I.ok.hd hc) ?_))
  refine wpAny_bind (thn (he pins s σ H _ I h) fun u s1 ⟨v, H1, I1, rv, e, d2, ev, ee, hn, hE⟩ => wpAny_bind (wpAny_standAt (wpAny_pure ?_)))
  subst ev
  obtain rfl : u = Value.ref e := rv
  obtain ⟨t, eo⟩ := ExcH.get I1.hok ee
  exact ⟨e, t, d2, rfl, I1.bk _ _ hC, eo, O.filled pins σ H1 s1 e C d2 I1 ee hn hE⟩
structure XIni (K : PySem.W.Frag) (D : Addr) : Prop where
  rd : PySem.W.readsIn K D (.type "type") = true
  fc : PySem.W.findCls K (.ref D) (.type "type") "__init__" = some (.val (.builtin "ValueError.__init__"))
  sp : PySem.W.specialIn K (.ref D) "__getattribute__" = some (some (.builtin "type.__getattribute__"))
def tIni (C : Addr) (t : TA) : TE := fun σ H Q => t σ H fun vs H1 => ∃ a x, vs = [.ref a, .str x] ∧ H1 a = some (ExcH a C none) ∧ Q .non H1
theorem pe_ini {y : Str} {p pos apos : Pos} {ex : Expr} {es : List Expr} {t : TA} {pl : Sem Bool} (own : OwnI C D fI X.base) (i : XIni X.K D) (hg : Gl X y) (hm : X.mg y = some (.ref D)) (ha : PA X (ex :: es) t)
    (hdb : (y == ("__debug__" : Str)) = false := by decide) (hst : starEach (ex :: es) X.env = (false, eval ex X.env) :: starEach es X.env := by rfl) (hpl : (backTo pos (starEach es X.env)).any (·.1) = false := by rfl)
    (ht : eval (.Call (.Attribute (.Name y p) "__init__" apos) (ex :: es) [] pos) X.env = (do
      let ov ← eval (.Name y p) X.env
      standAt apos.atName
      let (f, first) ← holding [ov] (getMethod ov "__init__" pl)
      callWith pos f first (backTo pos (starEach (ex :: es) X.env)) (backToKw pos (keywordEach [] X.env))) := by rfl) :
    PE X (.Call (.Attribute (.Name y p) "__init__" apos) (ex :: es) [] pos) (tIni C t) := by
  intro pins s σ H Q I h
  refine PySem.W.methodCall_KW (pl := pl) (ld_glob I hg hm ?_ hdb) ht
  refine PySem.W.method_cls I.kIn i.sp (PySem.W.cls_value I.kIn i.rd i.fc rfl ?_)
  have h' := ha pos pins _ σ H _ (I.tok (s.toks + 1)) h
  rw [hst] at h' ⊢
  refine PySem.W.callWith_of (P := fun _ => True) (by show ((false || (backTo pos (starEach es X.env)).any (·.1)) || false) = false; rw [hpl]; rfl) (fun _ _ => ⟨.machine, .inr (.inl rfl), .now⟩) (Calls.evalArgs_plain (thn h' fun us s2 ⟨vs, H1, I1, rv, a, x, ev, ea, q⟩ => ⟨trivial, ?_⟩))
  subst ev
  obtain ⟨u1, u2, rfl, ru, rx⟩ := vals2 rv
  obtain rfl : u1 = Value.ref a := ru
  obtain ⟨tk, rfl⟩ := rx
  obtain ⟨N, nm, qn, bs, hdct, sn, sub, ab, col, dd, k0, k1, k2, k3, k5, mN, oI, hC, hN, hi, hf, hfc, T⟩ := own.obj
  obtain ⟨t0, eo⟩ := ExcH.get I1.hok ea
  have F := PySem.F.excBase_ValueError
  obtain ⟨hh, g, d, tk2, os⟩ := s2
  refine wpAny_call (codeAny_call_builtin F.init.plain F.initEntry (wpAny_check_init_subT F (T.keeps I1.bk) (I1.bk _ _ hC) eo rfl ?_))
  wp_walk
  have eo1 : (hh.push { cls := .type "tuple", data := .seq #[Value.str x tk] }).get? a = some (excO C none t0) := Heap.get?_push_of_some _ eo
  have e2 : ((hh.push { cls := .type "tuple", data := .seq #[Value.str x tk] }).update a (Obj.mapFields fun z => z.setIfInBounds 0 (Value.ref hh.objs.size))).get? a = some (excO C none hh.objs.size) := Heap.get?_update_self _ eo1 rfl
  have I2 := I1.write (t' := tk2) (x := a) (e := a) (o := ExcH a C none) (h' := (hh.push { cls := .type "tuple", data := .seq #[Value.str x tk] }).update a (Obj.mapFields fun z => z.setIfInBounds 0 (Value.ref hh.objs.size))) (by rw [ea]; exact True.intro) (.inl rfl)
    (fun b u hb e => (Heap.get?_update_other _ _ (Ne.symm hb)).trans (Heap.get?_push_of_some _ e)) ⟨_, e2⟩ (ExcH.ok e2)
  rw [upd_id ea] at I2
  exact ⟨.non, H1, I2, rfl, q⟩
end
end L2
namespace L2
open PySem PySem.Spec PyProof.Rows
section
variable {X : Cx}
theorem vals_bools : ∀ {bs : List Bool} {us : List Value}, Vals (bs.map V.bl) us → us = bs.map Value.bool
  | [], _, .nil => rfl
  | b :: bs, _, .cons r rs => by
    obtain rfl := (show _ = Value.bool b from r)
    rw [List.map_cons, vals_bools rs]
theorem call_all_bools (hc : X.calm = true) : CallR X (.builtin "all") (fun xs H Q => ∃ (p : Addr) (bs : List Bool), xs = [.ref p] ∧ SqL X.K H p (bs.map V.bl) ∧ Q (.bl (bs.all id)) H) := by
  intro pins s σ H vs us Q I r h
  obtain ⟨p, bs, rfl, hS, q⟩ := h
  obtain ⟨u, rfl, rx⟩ := vals1 r
  cases rx
  obtain ⟨its, rv, pl, hz⟩ := I.list hS
  have ei := vals_bools rv
  subst ei
  have hl := pl.isList
  have plt : p < s.heap.objs.size := by
    obtain ⟨o, n, h1, _⟩ := pl
    exact Heap.lt_size h1
  refine call_all_walk (wpAny_pyIter_list hl ?_)
  refine ⟨s.heap.objs.size, [s.heap.objs.size, p], [s.heap.objs.size], _, _, _, fun i => bs.getD i false, rfl, Walks.list (prog := X.prog) (w := X.w) (A := X.A.in1) (show X.A.in1.handled = none from I.ok.hd hc) _ p (Nat.ne_of_lt plt) (bs.map Value.bool).toArray, ⟨⟨_, Heap.get?_push_size _ rfl, rfl, rfl⟩, hl.at fun o e => Heap.get?_push_of_some _ e⟩, fun i v s2 Q2 E2 hP hQ => ?_, fun h' tk k => ?_⟩
  · have hP' : (bs.map Value.bool)[i]? = some v := by simpa using hP
    rw [List.getElem?_map] at hP'
    cases hb : bs[i]? with
    | none => rw [hb] at hP'; cases hP'
    | some b =>
      rw [hb] at hP'
      obtain rfl := Option.some.inj hP'
      have : bs.getD i false = b := by rw [List.getD_eq_getElem?_getD, hb]; rfl
      dsimp only at hQ
      rw [this] at hQ
      exact wpAny_pure hQ
  · have e : ((List.range (bs.map Value.bool).toArray.size).all fun i => bs.getD i false) = bs.all id := by
      rw [List.size_toArray, List.length_map, Bool.eq_iff_iff, List.all_eq_true, List.all_eq_true]
      constructor
      · intro z b hb
        obtain ⟨i, hi⟩ := List.getElem?_of_mem hb
        have := z i (List.mem_range.mpr (List.getElem?_eq_some_iff.mp hi).1)
        rw [List.getD_eq_getElem?_getD, hi] at this
        exact this
      · intro z i hi
        rw [List.getD_eq_getElem?_getD, List.getElem?_eq_getElem (List.mem_range.mp hi)]
        exact z _ (List.getElem_mem _)
    rw [e]
    exact ⟨.bl _, H, I.kept (t' := tk) fun b o hb => k b o (fun z => absurd (Heap.lt_size hb) (by rw [List.mem_singleton.mp z]; exact Nat.lt_irrefl _)) (Heap.get?_push_of_some _ hb), rfl, q⟩
end
structure PlainCls (K : PySem.W.Frag) (mg : Str → Option Value) (base : Heap) (x y : Str) (C D : Addr) : Prop where
  own : OwnCls x C bmV "ValueError.__new__" mg base
  mC : mg x = some (.ref C)
  mD : mg y = some (.ref D)
  t1 : PySem.W.exmOne K (.ref C) (.ref C) = some true
  t2 : PySem.W.exmOne K (.ref C) (.ref D) = some true
  t3 : PySem.W.kitOne K (.ref C) (.type "ValueError") = some true
def plainIn (K : PySem.W.Frag) (C D : Addr) : Bool := PySem.W.excIn K C bmV "ValueError.__new__" && PySem.W.exmOne K (.ref C) (.ref C) == some true && PySem.W.exmOne K (.ref C) (.ref D) == some true && PySem.W.kitOne K (.ref C) (.type "ValueError") == some true
theorem plain_of {K : PySem.W.Frag} {mg : Str → Option Value} {base : Heap} {x y : Str} {C D : Addr} (X : K.In base) (h : plainIn K C D = true) (mC : mg x = some (.ref C)) (mD : mg y = some (.ref D)) : PlainCls K mg base x y C D := by
  unfold plainIn at h
  simp only [Bool.and_eq_true, beq_iff_eq] at h
  obtain ⟨⟨⟨q, t1⟩, t2⟩, t3⟩ := h
  refine ⟨⟨mC, ?_⟩, mC, mD, t1, t2, t3⟩
  unfold PySem.W.excIn at q
  split at q
  · rename_i dd cd sl ho
    split at q
    · rename_i C' bm k0 k1 k2 k3 n k5 hm hs
      simp only [Bool.and_eq_true, beq_iff_eq, Bool.not_eq_true'] at q
      obtain ⟨⟨⟨⟨⟨rfl, rfl⟩, hdel⟩, ht⟩, hok⟩, hni⟩ := q
      obtain ⟨nm, bs, mro, ns, qn, hd, sn, sub, ab, col, del⟩ := cd
      dsimp only at hm hdel hok hni
      subst hm hdel
      have hsl : sl = #[k0, k1, k2, k3, some (.builtin "ValueError.__new__"), k5] := by
        obtain ⟨l⟩ := sl
        simp only at hs
        rw [hs]
      subst hsl
      exact ⟨bm, ns, nm, qn, bs, hd, sn, sub, ab, col, dd, k0, k1, k2, k3, k5, _, X _ _ ho, .of_isNs (PySem.W.isNs_of_in X hok), PySem.W.nsMap_none_of_in X hok hni, PySem.W.tail_of_in X ht⟩
    · cases q
  · cases q
end L2
namespace L2
open PySem PySem.Spec PyProof.Rows
def Its (x : Str) : It := ⟨fun i _ => i < x.cps.size, fun i H v H' => H' = H ∧ ∃ c, x.cps[i]? = some c ∧ v = .str ⟨#[c]⟩, fun i _ => x.cps.size ≤ i⟩
theorem turn_str {P : Program} {w : World} {K : PySem.W.Frag} {tg : Expr} (x : Str) (t : Tok) (it : Addr) : Turn P w K tg (Its x) [it] it (fun i h => h.IsStrIter it "str_ascii_iterator" x t i) where
  mem := by simp
  obj := fun i h st b hb => by
    have e : b = it := by simpa using hb
    subst e
    obtain ⟨o, e, c, d⟩ := st
    exact ⟨o, e, fun v z => by rw [d] at z; cases z⟩
  keep := fun i h h' st k => by
    obtain ⟨o, e, r⟩ := st
    exact ⟨o, k it (by simp) o e, r⟩
  item := by
    intro X hP hw hK hc i pins s σ H E I hf st hg
    subst hP hw hK
    have hg' : i < x.cps.size := hg
    obtain ⟨c, hx⟩ : ∃ c, x.cps[i]? = some c := ⟨x.cps[i], by simp [hg']⟩
    obtain ⟨f0, f1, f2, f3, f4, f5⟩ := hf it (by simp)
    refine wpAny_pyNext_ascii_item st hx fun h' st' sb => ?_
    have I1 : Inv X pins σ H { s with heap := h', toks := s.toks + 1 } := I.turned (t' := s.toks + 1) (fun b o hb e => (sb.2 b hb).trans e) f0 f1 f3 f4 f5
    obtain ⟨o, e, cc, d⟩ := id st'
    exact ⟨_, rfl, go_of (s := { s with heap := h', toks := s.toks + 1 }) e cc d (by decide) ⟨.str ⟨#[c]⟩, H, I1, ⟨_, rfl⟩, ⟨rfl, c, hx, rfl⟩, st', fun b hb => (hf b hb).1⟩⟩
  done := by
    intro X hP hw hK hc i pins s σ H E I hf st hg
    subst hP hw hK
    have hg' : x.cps.size ≤ i := hg
    obtain ⟨f0, f1, f2, f3, f4, f5⟩ := hf it (by simp)
    exact wpAny_pyNext_ascii_end (I.ok.hd hc) st (by simp [hg']) fun h' eb => ⟨rfl, I.turned (t' := s.toks) (fun b o hb e => eb b o hb e) f0 f1 f3 f4 f5⟩
  self := fun _ _ _ _ _ st h => wpAny_pyIter_striter_ascii st h
def iStr (te : TE) : TI := fun σ H R => te σ H fun v H1 => ∃ x, v = .str x ∧ x.cps.all (· < 128) = true ∧ R (Its x) H1
section
variable {X : Cx} {tg : Expr}
theorem pi_str {l : Expr} {tl : TE} (hl : PE X l tl) : PI X tg l (iStr tl) := by
  intro pins s σ H R I h
  refine thn (hl pins s σ H _ I h) fun v s1 ⟨y, H1, I1, r1, q1⟩ => ?_
  obtain ⟨x, e, ha, q⟩ := q1
  subst e
  obtain ⟨t, rfl⟩ := r1
  refine wpAny_pyIter_ascii ha ?_
  refine ⟨s1.heap.objs.size, [s1.heap.objs.size], _, _, H1, rfl, I1.kept (t' := s1.toks) fun b o e => Heap.get?_push_of_some _ e, turn_str x t _, ⟨_, Heap.get?_push_size _ rfl, rfl, rfl⟩, fun b hb => ?_, q⟩
  have e : b = s1.heap.objs.size := by simpa using hb
  subst e
  exact I1.fpOk (Nat.le_refl _) (I1.hok.fresh (Nat.le_refl _))
theorem for_str {l : List Nat} {g : TG} {tb : TS} {D : Ends} {σ : St} {H : Hp} (Pv : Nat → St → Hp → Prop) (h0 : Pv 0 σ H)
    (hs : ∀ i c σ H, l[i]? = some c → Pv i σ H → g (.str ⟨#[c]⟩) σ H fun σ2 H2 => tb { D with nx := Pv (i + 1), ct := Pv (i + 1), bk := D.nx } σ2 H2) (hd : ∀ σ H, Pv l.length σ H → D.nx σ H) :
    ∃ W : Nat → Nat → St → Hp → Prop, (∃ m, W 0 m σ H) ∧ ∀ i m σ H, W i m σ H →
      ((Its ⟨l.toArray⟩).stop i H ∧ D.nx σ H) ∨ ((Its ⟨l.toArray⟩).go i H ∧ ∃ N : St → Hp → Prop, (∀ σ' H', N σ' H' → ∃ m', m' < m ∧ W (i + 1) m' σ' H') ∧ ∀ x H', (Its ⟨l.toArray⟩).yld i H x H' → g x σ H' fun σ2 H2 => tb { D with nx := N, ct := N, bk := D.nx } σ2 H2) := by
  refine ⟨fun i m σ H => m = l.length - i ∧ i ≤ l.length ∧ Pv i σ H, ⟨l.length, by simp, Nat.zero_le _, h0⟩, ?_⟩
  rintro i m σ H ⟨rfl, hi, p⟩
  by_cases hlt : i < l.length
  · refine .inr ⟨(by show i < l.toArray.size; simpa using hlt), Pv (i + 1), fun σ' H' p' => ⟨l.length - (i + 1), by omega, rfl, hlt, p'⟩, fun x H' y => ?_⟩
    obtain ⟨e, c, hc, y⟩ := y
    subst e y
    exact hs i c σ _ (by simpa using hc) p
  · have e : i = l.length := by omega
    subst e
    exact .inl ⟨(by show l.toArray.size ≤ l.length; simp), hd σ H p⟩
theorem foldl_one (c : Nat) : ∀ (n : Nat) (a : Array Nat), (List.replicate n (#[c] : Array Nat)).foldl (· ++ ·) a = a ++ (List.replicate n c).toArray
  | 0, a => by simp
  | n + 1, a => by
    rw [List.replicate_succ, List.foldl_cons, foldl_one c n]
    apply Array.toList_inj.mp
    simp [List.replicate_succ]
theorem mul_one (c n : Nat) : Txt.mul ⟨#[c]⟩ (n : Int) = ⟨(List.replicate n c).toArray⟩ := by
  unfold Txt.mul
  by_cases h : (n : Int) < 1
  · rw [if_pos h]
    have : n = 0 := by omega
    subst this; rfl
  · rw [if_neg h]
    by_cases h1 : n = 1
    · subst h1; rfl
    · rw [if_neg (by
        intro z
        rw [Bool.or_eq_true] at z
        rcases z with z | z
        · have := eq_of_beq z; omega
        · cases z)]
      rw [Int.toNat_natCast]
      show (⟨List.foldl (· ++ ·) #[] (List.replicate n #[c])⟩ : Str) = _
      rw [foldl_one]
      simp
theorem op_srep : OpR X (binaryOp .Mult) (fun x y H Q => ∃ (z : Str) (c n : Nat), x = .str z ∧ z = ⟨#[c]⟩ ∧ y = .int (n : Int) ∧ n ≤ 1000 ∧ Q (.str ⟨(List.replicate n c).toArray⟩) H) := by
  intro pins s σ H x y v u Q I rx ry h
  obtain ⟨z, c, n, rfl, rfl, rfl, hn, q⟩ := h
  obtain ⟨t, rfl⟩ := rx
  obtain ⟨t', rfl⟩ := ry
  have e63 : (2 ^ 63 : Int) = 9223372036854775808 := by decide
  refine SB.mul ⟨?_, fun h1 _ => ?_, fun h1 _ => ?_⟩ fun t2 k => ⟨.str _, H, I.tok _, ⟨_, rfl⟩, by rw [mul_one]; exact q⟩
  · rw [Bool.or_eq_false_iff, decide_eq_false_iff_not, decide_eq_false_iff_not, e63]
    omega
  · show ¬ ((1 : Int) > (2 ^ 63 - 1) / (n : Int))
    have : (1 : Int) ≤ (2 ^ 63 - 1) / (n : Int) := by
      rw [Int.le_ediv_iff_mul_le (by omega), e63]; omega
    omega
  · show decide (1 * ((n : Int)).toNat > sizeLine) = false
    rw [decide_eq_false_iff_not, sizeLine_eq]
    omega
def rCount : V → List V → Hp → VK → Prop := fun x vs H Q => ∃ z y, x = .str z ∧ vs = [.str y] ∧ Q (.int (Txt.count z y)) H
theorem mt_scount : MtR X "str.count" rCount := by
  intro pins s σ H x vs v us Q I rx rv h
  obtain ⟨z, y, rfl, rfl, q⟩ := h
  obtain ⟨t, rfl⟩ := rx
  obtain ⟨u, rfl, t', rfl⟩ := rv.one
  exact SC.count ⟨.int _, H, I.tok _, ⟨_, rfl⟩, q⟩
theorem count_le (z y : Str) : Txt.count z y ≤ (z.length : Int) + 1 := by
  unfold Txt.count
  have := StrLaws.occ_length_le_len z y 0 z.length (z.length + 1)
  omega
theorem tx_app (a b : List Nat) : (⟨a.toArray⟩ : Str) ++ (⟨b.toArray⟩ : Str) = ⟨(a ++ b).toArray⟩ := by
  apply Str.ext'
  rw [Str.cps_append]
  simp
theorem tx_len (a : List Nat) : (⟨a.toArray⟩ : Str).length = a.length := by simp [Str.length]
theorem tx_small {l : List Nat} (h : ∀ c ∈ l, c = 40 ∨ c = 41) : (⟨l.toArray⟩ : Str).cps.all (· < 128) = true := by
  show l.toArray.all (· < 128) = true
  rw [List.all_toArray, List.all_eq_true]
  intro c hc
  rcases h c hc with rfl | rfl <;> rfl
end
end L2
namespace L2
open PySem PySem.Spec PyProof.Rows
section
variable {X : Cx}
def rSlS : V → Option Int → Option Int → Hp → VK → Prop := fun x lo hi H Q => ∃ z, x = .str z ∧ z.length ≤ sizeLine ∧ Q (.str (Txt.slice z lo hi)) H
theorem sl_str : SlR X rSlS := by
  intro pins s σ H x v vl vu lo hi sl Q I rx hs pl pu h
  obtain ⟨z, rfl, hz, q⟩ := h
  obtain ⟨t, rfl⟩ := rx
  refine ⟨"str", _, PySem.F.slot_str_getitem.lookup, typeIs_str _ _ _, ?_⟩
  obtain ⟨o, ho, hc, hd⟩ := hs
  cases pl with
  | none =>
    cases pu with
    | none => exact wpAny_getItem_str_slice (l := none) (u := none) (st := none) ⟨o, ho, hc, hd⟩ rfl (post_val_or_str ⟨Nat.le_trans (Txt.slice_le z _ _) hz, fun t' k => ⟨.str _, H, I.tok _, ⟨_, rfl⟩, q⟩⟩)
    | int j u => exact wpAny_getItem_str_slice (l := none) (u := some (j, u)) (st := none) ⟨o, ho, hc, hd⟩ rfl (post_val_or_str ⟨Nat.le_trans (Txt.slice_le z _ _) hz, fun t' k => ⟨.str _, H, I.tok _, ⟨_, rfl⟩, q⟩⟩)
  | int i u =>
    cases pu with
    | none => exact wpAny_getItem_str_slice (l := some (i, u)) (u := none) (st := none) ⟨o, ho, hc, hd⟩ rfl (post_val_or_str ⟨Nat.le_trans (Txt.slice_le z _ _) hz, fun t' k => ⟨.str _, H, I.tok _, ⟨_, rfl⟩, q⟩⟩)
    | int j u' => exact wpAny_getItem_str_slice (l := some (i, u)) (u := some (j, u')) (st := none) ⟨o, ho, hc, hd⟩ rfl (post_val_or_str ⟨Nat.le_trans (Txt.slice_le z _ _) hz, fun t' k => ⟨.str _, H, I.tok _, ⟨_, rfl⟩, q⟩⟩)
theorem slice_take {l : List Nat} {k : Nat} (h : k ≤ l.length) : Txt.slice ⟨l.toArray⟩ none (some (k : Int)) = ⟨(l.take k).toArray⟩ := by
  have := beq_iff_eq.mp (slice_closes_to (x := ⟨l.toArray⟩) (j := (k : Int)) ⟨by omega, by show (k : Int) ≤ (l.toArray.toList.length : Int); simp; omega⟩)
  rw [this]
  simp
theorem slice_drop {l : List Nat} {k : Nat} (h : k ≤ l.length) : Txt.slice ⟨l.toArray⟩ (some (k : Int)) none = ⟨(l.drop k).toArray⟩ := by
  have := beq_iff_eq.mp (slice_closes_from (x := ⟨l.toArray⟩) (i := (k : Int)) ⟨by omega, by show (k : Int) ≤ (l.toArray.toList.length : Int); simp; omega⟩)
  rw [this]
  apply Str.ext'
  show ((l.toArray.toList.drop ((k : Int)).toNat).take ((l.toArray.toList.length : Int) - (k : Int)).toNat).toArray = (l.drop k).toArray
  rw [Int.toNat_natCast, List.take_of_length_le (by simp)]
theorem op_smul : OpR X (binaryOp .Mult) (fun x y H Q => ∃ (z : Str) (n : Nat), x = .str z ∧ y = .int (n : Int) ∧ 0 < n ∧ z.length ≤ 1000 ∧ n ≤ 1000 ∧ Q (.str (Txt.mul z (n : Int))) H) := by
  intro pins s σ H x y v u Q I rx ry h
  obtain ⟨z, n, rfl, rfl, n0, hz, hn, q⟩ := h
  obtain ⟨t, rfl⟩ := rx
  obtain ⟨t', rfl⟩ := ry
  have e63 : (2 ^ 63 : Int) = 9223372036854775808 := by decide
  refine SB.mul ⟨?_, fun h1 _ => ?_, fun h1 _ => ?_⟩ fun t2 k => ⟨.str _, H, I.tok _, ⟨_, rfl⟩, q⟩
  · rw [Bool.or_eq_false_iff, decide_eq_false_iff_not, decide_eq_false_iff_not, e63]
    omega
  · have : (1000 : Int) ≤ (2 ^ 63 - 1) / (n : Int) := by
      rw [Int.le_ediv_iff_mul_le (by omega), e63]; omega
    omega
  · show decide (z.length * ((n : Int)).toNat > sizeLine) = false
    rw [decide_eq_false_iff_not, sizeLine_eq, Int.toNat_natCast]
    have : z.length * n ≤ 1000 * 1000 := Nat.mul_le_mul hz hn
    omega
end
def Itse (x : Str) : It := ⟨fun i _ => i < x.cps.size, fun i H v H' => ∃ T c, v = .ref T ∧ H T = none ∧ x.cps[i]? = some c ∧ H' = upd H T (.tup [.int (i : Int), .str ⟨#[c]⟩]), fun i _ => i = x.cps.size⟩
theorem turn_enumS {P : Program} {w : World} {K : PySem.W.Frag} {es : List Expr} {k : Nat} {pos : Pos} (x : Str) (t : Tok) (e it : Addr) (hne : e ≠ it) :
    Turn P w K (.Tuple es k pos) (Itse x) [e, it] e (fun i h => (∃ old, IsEnum h e it (i : Int) old) ∧ h.IsStrIter it "str_ascii_iterator" x t i) where
  mem := by simp
  obj := fun i h st b hb => by
    obtain ⟨⟨old, he⟩, hit⟩ := st
    rcases List.mem_cons.mp hb with rfl | hb
    · exact ⟨_, he, fun v z => by cases z⟩
    · have e2 : b = it := by simpa using hb
      subst e2
      obtain ⟨o, e, c, d⟩ := hit
      exact ⟨o, e, fun v z => by rw [d] at z; cases z⟩
  keep := fun i h h' st kp => by
    obtain ⟨⟨old, he⟩, o, q, r⟩ := st
    exact ⟨⟨old, kp e (by simp) _ he⟩, o, kp it (by simp) o q, r⟩
  item := by
    intro X hP hw hK hc i pins s σ H E I hf st hg
    subst hP hw hK
    obtain ⟨⟨old, he⟩, hit⟩ := st
    have hlt : i < x.cps.size := hg
    have fe := hf e (by simp)
    have fi := hf it (by simp)
    refine wpAny_pyNext_enum_itemD (Draws.strAscii (show X.A.in1.handled = none from I.ok.hd hc) it x t) he hit hlt hne (by simpa using hne) fun u h' tk hPu ho hit' hT hsz hk => ?_
    obtain ⟨c, ut, hx, rfl⟩ := hPu
    have fT : FpOk X pins H s.heap.objs.size := I.fpOk (Nat.le_refl _) (I.hok.fresh (Nat.le_refl _))
    have helt : e < s.heap.objs.size := Heap.lt_size he
    have hilt : it < s.heap.objs.size := by obtain ⟨_, q, _⟩ := hit; exact Heap.lt_size q
    refine ⟨_, rfl, wpAny_letOwnedTupleGo_enum ho fun h2 he2 hs2 => ?_⟩
    have hk2 : ∀ b o, b ≠ e → b ≠ it → s.heap.get? b = some o → h2.get? b = some o := fun b o h1 h3 q => (hs2.2 b h1).trans (hk b o h1 h3 q)
    have nb : ∀ b u, H b = some u → b ≠ e ∧ b ≠ it := fun b u q => ⟨(fun z => by rw [z, fe.1] at q; cases q), (fun z => by rw [z, fi.1] at q; cases q)⟩
    have I1 : Inv X pins σ H { s with heap := h2, toks := tk + 1 } := by
      refine I.step (g' := s.gens) (d' := s.drawn) (ch := [e, it]) (fun b hb => ?_) (fun b o _ _ hc q _ => hk2 b o (fun z => hc (by simp [z])) (fun z => hc (by simp [z])) q) (fun b o _ _ hc q _ => ⟨o.slots, hk2 b o (fun z => hc (by simp [z])) (fun z => hc (by simp [z])) q⟩)
        (fun _ _ _ _ n => n) (fun b o hc q => ⟨o, hk2 b o (fun z => hc (by simp [z])) (fun z => hc (by simp [z])) q⟩) (fun _ _ q => q) (fun _ _ _ q => q) (fun b ps q => ⟨#[], by rw [q]; simp⟩) (fun m hm => ?_) (fun b u q => ?_) I.bare
      · rcases List.mem_cons.mp hb with rfl | hb
        · exact ⟨fe.2.2.2.1, fe.2.1, fe.2.2.2.2.1, fe.2.2.2.2.2⟩
        · have e2 : b = it := by simpa using hb
          subst e2
          exact ⟨fi.2.2.2.1, fi.2.1, fi.2.2.2.2.1, fi.2.2.2.2.2⟩
      · obtain ⟨o, es', ep, hoL, r⟩ := hm
        exact ⟨o, es', ep, hk2 _ o (Ne.symm fe.2.1) (Ne.symm fi.2.1) hoL, r⟩
      · refine (I.hok b u q).stay (fun c v hc r => ?_) (fun _ q => q) fun _ _ q => q
        rcases hc with z | z
        · rw [z] at r ⊢; exact hk2 b v (nb b u q).1 (nb b u q).2 r
        · exact hk2 c v (nb c _ z).1 (nb c _ z).2 r
    have hT2 : h2.get? s.heap.objs.size = some { cls := .type "tuple", data := .seq #[.int (i : Int) tk, .str ⟨#[c]⟩ ut] } := (hs2.2 _ (Nat.ne_of_gt helt)).trans hT
    have z2 : 2 ≤ sizeLine := by rw [sizeLine_eq]; decide
    have I2 : Inv X pins σ (upd H s.heap.objs.size (.tup [.int (i : Int), .str ⟨#[c]⟩])) { s with heap := h2, toks := tk + 1 } := I1.track fT ⟨z2, [.int (i : Int) tk, .str ⟨#[c]⟩ ut], .cons ⟨_, rfl⟩ (.cons ⟨_, rfl⟩ .nil), ⟨_, hT2, rfl, _, rfl⟩⟩
    refine ⟨.ref s.heap.objs.size, _, I2, rfl, ⟨_, c, rfl, fT.1, hx, rfl⟩, ⟨⟨.str ⟨#[c]⟩ ut, ?_⟩, ?_⟩, fun b hb => ?_⟩
    · have e3 : (((i + 1 : Nat) : Int)) = (i : Int) + 1 := by omega
      rw [e3]; exact he2
    · obtain ⟨o, q, r⟩ := hit'
      exact ⟨o, (hs2.2 it (Ne.symm hne)).trans q, r⟩
    · rcases List.mem_cons.mp hb with rfl | hb
      · rw [upd_ne (Nat.ne_of_lt helt)]; exact fe.1
      · have e2 : b = it := by simpa using hb
        subst e2
        rw [upd_ne (Nat.ne_of_lt hilt)]; exact fi.1
  done := by
    intro X hP hw hK hc i pins s σ H E I hf st hg
    subst hP hw hK
    obtain ⟨⟨old, he⟩, hit⟩ := st
    have hge : i = x.cps.size := hg
    subst hge
    obtain ⟨f0, f1, f2, f3, f4, f5⟩ := hf it (by simp)
    exact wpAny_pyNext_enum_endD (Draws.strAscii (show X.A.in1.handled = none from I.ok.hd hc) it x t) he hit fun h' eb => ⟨rfl, I.turned (t' := s.toks) (fun b o hb q => eb b o hb q) f0 f1 f3 f4 f5⟩
  self := fun _ _ _ _ _ st h => by
    obtain ⟨⟨old, he⟩, _⟩ := st
    exact wpAny_pyIter_enum he h
section
variable {X : Cx}
def iEnumS (ta : TA) : TI := fun σ H R => ta σ H fun vs H1 => ∃ x, vs = [.str x] ∧ x.cps.all (· < 128) = true ∧ R (Itse x) H1
theorem pi_enumS {a : Expr} {ta : TA} {p pos tpos : Pos} {es : List Expr} {k : Nat} (hg : Gl X "enumerate") (hm : X.mg "enumerate" = none) (hb : bootBuiltins "enumerate" = some (.type "enumerate")) (ha : PA X [a] ta) (hs : starEach [a] X.env = [(false, eval a X.env)] := by rfl) :
    PI X (.Tuple es k tpos) (.Call (.Name "enumerate" p) [a] [] pos) (iEnumS ta) := by
  intro pins s σ H R I h
  refine Call_ (ld_blt I hg hm hb (PyProof.Rows.callWith_type1 (thn (ha pos pins s σ H _ I h) fun us s1 ⟨vs, H1, I1, r1, q1⟩ => ?_) hs rfl))
  obtain ⟨x, rfl, hx, q⟩ := q1
  obtain ⟨u, rfl, rx⟩ := vals1 r1
  obtain ⟨t, rfl⟩ := rx
  refine call_enumerate_str fun h' he hit hsz hk => ?_
  have I2 : Inv X pins σ H1 { s1 with heap := h' } := I1.kept (t' := s1.toks) hk
  refine wpAny_pyIter_enum he ?_
  have f1 : FpOk X pins H1 s1.heap.objs.size := I1.fpOk (Nat.le_refl _) (I1.hok.fresh (Nat.le_refl _))
  have f2 : FpOk X pins H1 (s1.heap.objs.size + 1) := I1.fpOk (Nat.le_succ _) (I1.hok.fresh (Nat.le_succ _))
  have ety : strIterType x = "str_ascii_iterator" := by unfold strIterType; rw [if_pos hx]
  rw [ety] at hit
  refine ⟨_, [s1.heap.objs.size + 1, s1.heap.objs.size], _, _, H1, rfl, I2, turn_enumS x t (s1.heap.objs.size + 1) s1.heap.objs.size (Nat.succ_ne_self _), ⟨⟨_, he⟩, hit⟩, fun b hb => ?_, q⟩
  rcases List.mem_cons.mp hb with rfl | hb
  · exact f2
  · have e2 : b = s1.heap.objs.size := by simpa using hb
    subst e2; exact f1
end
theorem for_enumS {l : List Nat} {g : TG} {tb : TS} {D : Ends} {σ : St} {H : Hp} (Pv : Nat → St → Hp → Prop) (h0 : Pv 0 σ H)
    (hs : ∀ i c σ H T, l[i]? = some c → Pv i σ H → H T = none → g (.ref T) σ (upd H T (.tup [.int (i : Int), .str ⟨#[c]⟩])) fun σ2 H2 => tb { D with nx := Pv (i + 1), ct := Pv (i + 1), bk := D.nx } σ2 H2) (hd : ∀ σ H, Pv l.length σ H → D.nx σ H) :
    ∃ W : Nat → Nat → St → Hp → Prop, (∃ m, W 0 m σ H) ∧ ∀ i m σ H, W i m σ H →
      ((Itse ⟨l.toArray⟩).stop i H ∧ D.nx σ H) ∨ ((Itse ⟨l.toArray⟩).go i H ∧ ∃ N : St → Hp → Prop, (∀ σ' H', N σ' H' → ∃ m', m' < m ∧ W (i + 1) m' σ' H') ∧ ∀ x H', (Itse ⟨l.toArray⟩).yld i H x H' → g x σ H' fun σ2 H2 => tb { D with nx := N, ct := N, bk := D.nx } σ2 H2) := by
  refine ⟨fun i m σ H => m = l.length - i ∧ i ≤ l.length ∧ Pv i σ H, ⟨l.length, by simp, Nat.zero_le _, h0⟩, ?_⟩
  rintro i m σ H ⟨rfl, hi, p⟩
  by_cases hlt : i < l.length
  · refine .inr ⟨(by show i < l.toArray.size; simpa using hlt), Pv (i + 1), fun σ' H' p' => ⟨l.length - (i + 1), by omega, rfl, hlt, p'⟩, fun x H' y => ?_⟩
    obtain ⟨T, c, rfl, hT, hc, rfl⟩ := y
    exact hs i c σ H T (by simpa using hc) p hT
  · have e : i = l.length := by omega
    subst e
    exact .inl ⟨(by show l.length = l.toArray.size; simp), hd σ H p⟩
end L2
namespace HG
open PySem
theorem num_ne (m : Nat) (h : m < 41) : num m ≠ Str.empty := fun z => by
  have : ∀ m, m < 41 → (num m).length ≠ 0 := by decide +kernel
  exact this m h (by rw [z]; rfl)
theorem word_of {x : Str} {a b : Nat} (hb : b < 41) (h1 : (Txt.partition x dash).1 = num a) (h2 : (Txt.partition x dash).2.2 = num b) : x = word (a, b) := by
  have sum := StrLaws.partition_sum x dash
  unfold Txt.partition at sum h1 h2
  rcases StrLaws.occ_head x dash 1 (Nat.le_refl 1) with ⟨h0, hn⟩ | ⟨i, r, h0, hi, hn⟩
  · rw [h0] at h2
    exact absurd h2.symm (num_ne b hb)
  · rw [h0] at sum h1 h2
    dsimp only at sum h1 h2
    rw [h1, h2] at sum
    exact sum.symm
theorem row_of {z : Str} {n : Nat} {ks : List (Nat × Nat)} (h : Txt.split z blank = num n :: ks.map word) : z = row n ks := by
  have := StrLaws.join_split z blank
  rw [h] at this
  have e := row_eq ks (num n)
  exact (this.symm.trans e.symm)
theorem cs_row (n : Nat) (ks : List (Nat × Nat)) : cs (row n ks) = cs (num n) ++ (ks.map fun k => 32 :: cs (word k)).flatten := by
  have go : ∀ (ks : List (Nat × Nat)) (d : Str), cs (ks.foldl (fun d k => d ++ blank ++ num k.1 ++ dash ++ num k.2) d) = cs d ++ (ks.map fun k => 32 :: cs (word k)).flatten := by
    intro ks
    induction ks with
    | nil => intro d; simp
    | cons k ks ih =>
      intro d
      rw [List.foldl_cons, ih]
      have e : cs (d ++ blank ++ num k.1 ++ dash ++ num k.2) = cs d ++ (32 :: cs (word k)) := by
        unfold word
        simp only [cs_app, cs_blank]
        simp
      rw [e, List.map_cons, List.flatten_cons, List.append_assoc]
  exact go ks (num n)
theorem num_first : ∀ m, m < 41 → ∃ c r, cs (num m) = c :: r ∧ 48 ≤ c ∧ c ≤ 57 ∧ (1 ≤ m → c ≠ 48) := by
  have : ∀ m, m < 41 → (match cs (num m) with
    | [] => false
    | c :: _ => decide (48 ≤ c) && decide (c ≤ 57) && (decide (m = 0) || decide (c ≠ 48))) = true := by decide +kernel
  intro m hm
  have h := this m hm
  cases e : cs (num m) with
  | nil => rw [e] at h; cases h
  | cons c r =>
    rw [e] at h
    dsimp only at h
    rw [Bool.and_eq_true, Bool.and_eq_true, Bool.or_eq_true, decide_eq_true_iff, decide_eq_true_iff, decide_eq_true_iff, decide_eq_true_iff] at h
    exact ⟨c, r, rfl, h.1.1, h.1.2, fun z => h.2.resolve_left (by omega)⟩
theorem num_last : ∀ m, m < 41 → ∃ r c, cs (num m) = r ++ [c] ∧ c ≠ 32 := by
  intro m hm
  have f := (num_free m hm).1.1
  obtain ⟨c, r, e, _⟩ := num_first m hm
  have ne : cs (num m) ≠ [] := by rw [e]; simp
  refine ⟨(cs (num m)).dropLast, (cs (num m)).getLast ne, (List.dropLast_concat_getLast ne).symm, fun z => f ?_⟩
  rw [← z]; exact List.getLast_mem ne
theorem row_first {n : Nat} {ks : List (Nat × Nat)} (hn : n < 41) : ∃ c r, cs (row n ks) = c :: r ∧ 48 ≤ c ∧ c ≤ 57 ∧ (1 ≤ n → c ≠ 48) := by
  obtain ⟨c, r, e, h⟩ := num_first n hn
  exact ⟨c, _, by rw [cs_row, e]; rfl, h⟩
theorem row_last {n : Nat} (hn : n < 41) : ∀ {ks : List (Nat × Nat)}, (∀ k ∈ ks, k.1 < 41 ∧ k.2 < 41) → ∃ r c, cs (row n ks) = r ++ [c] ∧ c ≠ 32 := by
  intro ks hk
  rcases List.eq_nil_or_concat ks with rfl | ⟨ks0, k, rfl⟩
  · obtain ⟨r, c, e, h⟩ := num_last n hn
    exact ⟨r, c, by rw [cs_row]; simpa using e, h⟩
  · obtain ⟨r, c, e, h⟩ := num_last k.2 (hk k (by simp)).2
    refine ⟨cs (num n) ++ ((ks0.map fun k => 32 :: cs (word k)).flatten ++ (32 :: (cs (num k.1) ++ (45 :: r)))), c, ?_, h⟩
    rw [cs_row]
    have ew : cs (word k) = cs (num k.1) ++ 45 :: cs (num k.2) := by
      unfold word
      rw [cs_app, cs_app, cs_dash, List.append_assoc]; rfl
    simp only [List.concat_eq_append, List.map_append, List.flatten_append, List.map_cons, List.map_nil, List.flatten_cons, List.flatten_nil, List.append_nil, ew, e]
    simp
theorem no_empty {n : Nat} {ks : List (Nat × Nat)} (hn : n < 41) : row n ks ≠ Str.empty := fun z => by
  obtain ⟨c, r, e, _⟩ := row_first (ks := ks) hn
  rw [z] at e
  exact nomatch (show ([] : List Nat) = c :: r from e)
theorem no_blank_first {n : Nat} {ks : List (Nat × Nat)} {y : Str} (hn : n < 41) : row n ks ≠ blank ++ y := fun z => by
  obtain ⟨c, r, e, h1, _⟩ := row_first (ks := ks) hn
  rw [z, cs_app, cs_blank] at e
  have : (32 : Nat) = c := (List.cons.inj e).1
  omega
theorem no_blank_last {n : Nat} {ks : List (Nat × Nat)} {y : Str} (hn : n < 41) (hk : ∀ k ∈ ks, k.1 < 41 ∧ k.2 < 41) : row n ks ≠ y ++ blank := fun z => by
  obtain ⟨r, c, e, h⟩ := row_last hn hk
  rw [z, cs_app, cs_blank] at e
  have := (List.append_inj' e rfl).2
  exact h (List.cons.inj this).1.symm
theorem no_nought {n : Nat} {ks : List (Nat × Nat)} {x y : Str} (hn : n < 41) (h1 : 1 ≤ n) (hx : cs x = [48]) : row n ks ≠ x ++ y := fun z => by
  obtain ⟨c, r, e, _, _, h⟩ := row_first (ks := ks) hn
  rw [z, cs_app, hx] at e
  exact h h1 (List.cons.inj e).1.symm
theorem no_loop {n n' : Nat} {ks ks' : List (Nat × Nat)} (hn : n < 41) (hn' : n' < 41) (hk : ∀ k ∈ ks, k.1 < 41 ∧ k.2 < 41) (hk' : ∀ k ∈ ks', k.1 < k.2 ∧ k.2 < 41) : row n' ks' ≠ row n ks ++ blank ++ word (0, 0) := fun z => by
  have e1 : row n ks ++ blank ++ word (0, 0) = row n (ks ++ [(0, 0)]) := by
    apply cs_inj
    rw [cs_app, cs_app, cs_row, cs_row, cs_blank]
    simp
  rw [e1] at z
  have s1 := split_row hn' (fun k hk2 => ⟨by have := hk' k hk2; omega, (hk' k hk2).2⟩)
  have s2 := split_row (ks := ks ++ [(0, 0)]) hn (fun k hk2 => by
    rcases List.mem_append.mp hk2 with y | y
    · exact hk k y
    · rw [List.mem_singleton.mp y]; exact ⟨by decide, by decide⟩)
  rw [z, s2] at s1
  have s3 := (List.cons.inj s1).2
  have hm : word (0, 0) ∈ ks'.map word := by rw [← s3]; simp
  obtain ⟨k, hk2, e⟩ := List.mem_map.mp hm
  have b := hk' k hk2
  obtain ⟨p1, p2⟩ := part_word (k := k) ⟨by omega, b.2⟩
  obtain ⟨q1, q2⟩ := part_word (k := (0, 0)) ⟨by decide, by decide⟩
  rw [e] at p2
  have := num_inj k.2 b.2 0 (by decide) (p2.symm.trans q2)
  omega
end HG
namespace L2
open PySem PySem.Spec PyProof.Rows
section
variable {prog : Program} {w : World} {A : Around} {E : Value → Shared → Prop} {env : Env} {nm q : Str} {C N : Addr} {bs bm : List Value} {hdct : Bool} {sn : List Str} {sub : List Value} {ab : Bool} {col : Option Bool} {dd : Option Addr} {k0 k1 k2 k3 k5 : Option Value} {newId : String}
theorem entry_unchain : entryFor table "proto.unchain" = some Builtin.«proto.unchain» := entryFor_of_fast rfl
theorem plain_unchain : plainId "proto.unchain" = true := by decide +kernel
theorem raise_from {s : Shared} {x cs : Sem Value} {a : Addr} {Q : Flow → Shared → Prop} (hbase : bm.contains (.type "BaseException") = true) (hh : A.handled = some (.ref a)) (hcs : ∀ (s : Shared) (Q : Value → Shared → Prop), Q .none s → wpAny (model prog w) A cs Q E s)
    (h : wpAny (model prog w) A x (fun v s₁ => ∃ e t oa, v = .ref e ∧ s₁.heap.get? C = some (excClassObj nm q C N bs bm hdct sn sub ab col dd k0 k1 k2 k3 k5 newId) ∧ s₁.heap.get? e = some (excO C none t) ∧ s₁.heap.get? a = some oa ∧ f2 oa = some .none ∧ a ≠ e ∧ C ≠ e ∧
      ∀ h', Heap.SameBut e s₁.heap h' → h'.get? e = some { cls := .ref C, data := .fields #[.ref t, .none, .ref a, .none, .bool true, .none] } → E (.ref e) { s₁ with heap := h' }) E s) :
    wpAny (model prog w) A (raiseStmt env (some x) (some cs)) Q E s := by
  have hcB : (Value.ref C :: bm).contains (.type "BaseException") = true := by rw [List.contains_cons, hbase, Bool.or_true]
  unfold raiseStmt
  refine wpAny_bind (wpAny_mono h (fun v s₁ h₁ => ?_) fun _ _ x => x)
  obtain ⟨e, t, oa, rfl, hC, he, ha, h2, nae, nCe, hE⟩ := h₁
  refine wpAny_bind (wpAny_holding (hcs _ _ ?_))
  obtain ⟨hp, g, d, tk, os⟩ := s₁
  repeat (first | with_reducible refine wpAny_loadPart_at hC ?_ | with_reducible refine wpAny_loadPart_at he ?_ | (with_reducible refine wpAny_isSubtype_exc hC ?_; rw [hcB]) | wp_step)
  have sb1 := Heap.SameBut.update hp e (Obj.mapFields fun x => x.setIfInBounds 3 Value.none)
  have sb2 := Heap.SameBut.update (hp.update e (Obj.mapFields fun x => x.setIfInBounds 3 Value.none)) e (Obj.mapFields fun x => x.setIfInBounds 4 (Value.bool true))
  have sb : Heap.SameBut e hp ((hp.update e (Obj.mapFields fun x => x.setIfInBounds 3 Value.none)).update e (Obj.mapFields fun x => x.setIfInBounds 4 (Value.bool true))) := ⟨sb2.1.trans sb1.1, fun b hb => (sb2.2 b hb).trans (sb1.2 b hb)⟩
  have he2 : ((hp.update e (Obj.mapFields fun x => x.setIfInBounds 3 Value.none)).update e (Obj.mapFields fun x => x.setIfInBounds 4 (Value.bool true))).get? e = some { cls := .ref C, data := .fields #[.ref t, .none, .none, .none, .bool true, .none] } := Heap.get?_update_self _ (Heap.get?_update_self _ he rfl) rfl
  generalize (hp.update e (Obj.mapFields fun x => x.setIfInBounds 3 Value.none)).update e (Obj.mapFields fun x => x.setIfInBounds 4 (Value.bool true)) = h2' at *
  have ha2 : h2'.get? a = some oa := by rw [sb.2 a nae]; exact ha
  obtain ⟨vs, hvs, hv2⟩ : ∃ vs, oa.data = .fields vs ∧ vs[2]? = some .none := by
    unfold f2 at h2
    split at h2
    · rename_i vs hvs
      exact ⟨vs, hvs, h2⟩
    · cases h2
  unfold raiseNew
  refine wpAny_bind (wpAny_handled ?_)
  rw [hh]
  dsimp only
  refine wpAny_ite_true (by simpa using nae) ?_
  refine wpAny_bind (wpAny_holding (wpAny_runValue (codeAny_builtin entry_unchain ?_)))
  rw [Around.under_plainId plain_unchain]
  unfold Builtin.«proto.unchain»
  dsimp only
  refine wpAny_bind ?_
  unfold field
  refine wpAny_bind (wpAny_fieldsOf ha2 hvs ?_)
  rw [hv2]
  refine wpAny_pure (wpAny_ite_true rfl (wpAny_pure ?_))
  dsimp only
  unfold updateField
  refine wpAny_bind (wpAny_bind (wpAny_load' he2 ?_))
  dsimp only
  refine wpAny_ite_true rfl (wpAny_update he2 (wpAny_throw ?_))
  refine hE _ ?_ (Heap.get?_update_self _ he2 rfl)
  have sb3 := Heap.SameBut.update h2' e (Obj.mapFields fun x => x.setIfInBounds 2 (Value.ref a))
  exact ⟨sb3.1.trans sb.1, fun b hb => (sb3.2 b hb).trans (sb.2 b hb)⟩
end
end L2
namespace L2
open PySem PySem.Spec PyProof.Rows
abbrev excF (C t a : Addr) : Obj := { cls := .ref C, data := .fields #[.ref t, .none, .ref a, .none, .bool true, .none] }
section
variable {M : Model} {A : Around} {E : Value → Shared → Prop} {s : Shared} {B : Heap} {env : Env} {outer : List Env} {L e : Addr} {Q : Unit → Shared → Prop}
theorem leaves_from {C t a : Addr} (hfr : A.frames = some (env :: outer)) (hf : env.frame = some L) (hkb : B.StaysIn s.heap) (hl : s.heap.FunFrames B (env :: outer)) (hen : B.get? e = none) (he : s.heap.get? e = some (excF C t a))
    (hQ : ∀ h', Heap.FlyingW B outer e (.ref C) (.ref t) h' → s.heap.UpToSlots h' → DictIs e none (some (.ref a)) h' → Q () { s with heap := h' }) : wpAny M A (leaving env (.ref e)) Q E s := by
  refine wpAny_mono ((kd_leaving env (.ref e)).any (x := e) (dd := none) (c2 := some (.ref a)) ⟨Heap.lt_size he, fun o z => by rw [he] at z; cases z; exact ⟨rfl, rfl⟩⟩ (wpAny_leaving_firstW (a0 := .ref t) (Q := fun _ s' => ∃ h', s' = { s with heap := h' } ∧ Heap.LeftW B (env :: outer) e (.ref C) (.ref t) s.heap h') hfr hl hf he hkb hen rfl rfl rfl fun h' l => ⟨h', rfl, l⟩))
    (fun _ _ z => ?_) fun _ _ x => x
  obtain ⟨⟨h', rfl, k1, ⟨_, _, k2⟩, k3, k4⟩, d⟩ := z
  exact hQ h' ⟨k1, hen, k2, k3⟩ k4 d
end
section
variable {X : Cx} {pins : List (Addr × Obj)} {σ : St} {H : Hp} {s : Shared} {h' : Heap} {cls : Value} {c2 : Option Value}
theorem XSt.from {e t : Addr} {h1 : Heap} (I : Inv X pins σ H s) (hex : X.ex = []) (kp : ∀ b o, s.heap.get? b = some o → h1.get? b = some o) (new : s.heap.get? e = none) (hst : ∀ b ∈ frs X.outer, b ∈ frs X.stack)
    (fl : Heap.FlyingW (PySem.W.hideAll s.heap (frs X.stack)) X.outer e cls (.ref t) h') (up : h1.UpToSlots h') (dk : DictIs e none c2 h') : XSt X.prog X.w X.outer X.H₀ X.s₀ H (PySem.W.hideAll s.heap (frs X.stack)) e cls (.ref t) none c2 { s with heap := h' } := by
  have nx : ∀ b : Addr, b ∉ X.ex := fun b z => by rw [hex] at z; simp at z
  have kB : ∀ b o, X.s₀.heap.get? b = some o → X.H₀ b = none → b ∉ frs X.outer → (PySem.W.hideAll s.heap (frs X.stack)).get? b = some o := fun b o e n hb =>
    PySem.W.hideAll_get _ (I.base.keep b o e n hb (nx b)) (out_sub I e hb)
  have tB : ∀ b o, X.s₀.heap.get? b = some o → b ∉ frs X.outer → ∃ o', (PySem.W.hideAll s.heap (frs X.stack)).get? b = some o' := fun b o e hb => by
    obtain ⟨o1, e1⟩ := I.base.there b o e (nx b)
    exact ⟨o1, PySem.W.hideAll_get _ e1 (out_sub I e hb)⟩
  have u2 : Un (frs X.outer) [] X.H₀ H X.s₀.heap s.heap := by have := I.base; rw [hex] at this; exact this
  have hokB : HOk X.prog X.w H (PySem.W.hideAll s.heap (frs X.stack)) := fun a o ea => (I.hok a o ea).stay (fun b u hb q => PySem.W.hideAll_get _ q fun z => by
    have n := I.stkFree b z
    rcases hb with rfl | hb
    · rw [ea] at n; cases n
    · rw [hb] at n; cases n) (fun _ q => q) fun _ _ q => q
  refine ⟨I.os, I.bare, u2.fly kB tB fl.1 ((Heap.UpToSlots.of_keeps kp).trans up) (fun b hb => frames_nf I.stack b (hst b hb)), hokB, kB, tB, fl, ?_, ?_, dk⟩
  · cases z : H e with
    | none => rfl
    | some o =>
      obtain ⟨ob, eo⟩ := (I.hok e o z).there
      rw [new] at eo; cases eo
  · cases z : X.s₀.heap.get? e with
    | none => rfl
    | some o =>
      obtain ⟨o1, e1⟩ := I.base.there e o z (nx e)
      rw [new] at e1; cases e1
end
def FromOk (X : Cx) (E : XK) : Prop := ∀ (pins : List (Addr × Obj)) (σ : St) (H : Hp) (s : Shared) (h' : Heap) (e C t a : Addr), Inv X pins σ H s → (∀ b o, s.heap.get? b = some o → h'.get? b = some o) → s.heap.get? e = none → h'.get? e = some (excF C t a) → E (.ref C) none H → X.xe (.ref e) { s with heap := h' }
theorem fromok_def {P : Program} {w : World} {K : PySem.W.Frag} {mg : Str → Option Value} {base : Heap} {N : List Str} {qual : Str} {scope : Scope} {f : Addr} {cd : Value} {A : Around} {outer : List Env} {s : Shared} {H : Hp} {E : XK} :
    FromOk (cxOf (CXH P w) P w K mg base N qual scope f cd A outer s H E) E := by
  have hst : ∀ b ∈ frs outer, b ∈ frs (envOfC qual scope s.heap.objs.size f cd :: outer) := fun b hb => by
    unfold frs at hb ⊢
    rw [List.mem_filterMap] at hb ⊢
    obtain ⟨env, h1, h2⟩ := hb
    exact ⟨env, List.mem_cons_of_mem _ h1, h2⟩
  intro pins σ H1 s1 h' e C t a I kp new he hE
  have hin : ∀ env ∈ (envOfC qual scope s.heap.objs.size f cd :: outer), ∀ b, env.frame = some b → b ∈ frs (envOfC qual scope s.heap.objs.size f cd :: outer) := fun env he b hb => List.mem_filterMap.mpr ⟨env, he, hb⟩
  have hen : (PySem.W.hideAll s1.heap (frs (envOfC qual scope s.heap.objs.size f cd :: outer))).get? e = none := by
    cases z : (PySem.W.hideAll s1.heap (frs (envOfC qual scope s.heap.objs.size f cd :: outer))).get? e with
    | none => rfl
    | some o => have := PySem.W.of_hideAll _ z; rw [new] at this; cases this
  refine leaves_from (s := { s1 with heap := h' }) (L := s.heap.objs.size) (C := C) (t := t) (a := a) I.ok.frames rfl (fun b o q => kp b o (PySem.W.of_hideAll _ q)) ((PySem.W.funFrames_hide I.stack hin).of_keeps fun b o hb _ => ⟨o, kp b o hb, rfl⟩) hen he fun h'' fl up dk => ?_
  exact ⟨e, .ref C, .ref t, none, some (.ref a), H1, _, rfl, trivial, XSt.from I rfl kp new hst fl up dk, hE⟩
abbrev Cx.handR (X : Cx) (pins : List (Addr × Obj)) (a : Addr) (o : Obj) : Cx := { X with A := X.A.mark (some (.ref a)), calm := false, pn := X.pn ++ pins ++ [(a, o)] }
section
variable {X : Cx} {pins pins' : List (Addr × Obj)} {σ : St} {H : Hp} {s : Shared}
theorem Inv.handR {a : Addr} {o : Obj} (I : Inv X pins σ H s) (h1 : s.heap.get? a = some o) (h2 : H a = none) (h3 : a ≠ X.env.locals) (h4 : a ∉ X.fs) (h5 : ∀ v, o.data ≠ .cell v) : Inv (X.handR pins a o) [] σ H s :=
  ⟨⟨I.ok.mod, I.ok.kind, I.ok.glob, I.ok.blt, I.ok.above, I.ok.inj, I.ok.has, I.ok.cab, (fun z => nomatch z), I.ok.frames, I.ok.stk, I.ok.exf, I.ok.bs, I.ok.bsz, I.ok.noex, I.ok.exfs, I.ok.funs, I.ok.frf⟩, I.os, I.bare, I.base, I.loc, I.cell, I.free, I.freeC, fun p hp => by
    rw [List.append_nil] at hp
    rcases List.mem_append.mp hp with z | z
    · exact I.pin p z
    · have e : p = (a, o) := by simpa using z
      subst e
      exact ⟨h1, h2, h3, h4, h5⟩, I.hok, I.len⟩
theorem Inv.unhandR {a : Addr} {o : Obj} (ok : X.Ok) (I : Inv (X.handR pins a o) pins' σ H s) : Inv X pins σ H s :=
  ⟨ok, I.os, I.bare, I.base, I.loc, I.cell, I.free, I.freeC, fun p hp => I.pin p (List.mem_append_left _ (List.mem_append_left _ hp)), I.hok, I.len⟩
theorem Inv.okR {a : Addr} {o : Obj} (hd : X.calm = true → X.A.handled = none) (I : Inv (X.handR pins a o) pins' σ H s) : X.Ok :=
  ⟨I.ok.mod, I.ok.kind, I.ok.glob, I.ok.blt, I.ok.above, I.ok.inj, I.ok.has, I.ok.cab, hd, I.ok.frames, I.ok.stk, I.ok.exf, I.ok.bs, I.ok.bsz, I.ok.noex, I.ok.exfs, I.ok.funs, I.ok.frf⟩
theorem SP.unhandR {a : Addr} {o : Obj} {D : Ends} {f : Flow} {s' : Shared} (ok : X.Ok) (h : SP (X.handR pins a o) pins' D f s') : SP X pins D f s' := by
  cases f with
  | next => obtain ⟨σ', H', I, q⟩ := h; exact ⟨σ', H', I.unhandR ok, q⟩
  | brk => obtain ⟨σ', H', I, q⟩ := h; exact ⟨σ', H', I.unhandR ok, q⟩
  | cont => obtain ⟨σ', H', I, q⟩ := h; exact ⟨σ', H', I.unhandR ok, q⟩
  | ret u => obtain ⟨v, σ', H', I, r, q⟩ := h; exact ⟨v, σ', H', I.unhandR ok, r, q⟩
theorem ps_raise_from {E : XK} {x : Str} {C a : Addr} {o : Obj} {np cpos pos npos : Pos} {j : Nat} {e : Expr} {es : List Expr} {t : TA} (hF : FromOk X E) (hok : X.Ok) (h2 : f2 o = some .none) (own : OwnCls x C bmV "ValueError.__new__" X.mg X.base) (hg : Gl X x) (ha : PA (X.handR pins a o) (e :: es) t)
    (he : starEach (e :: es) X.env = (false, eval e X.env) :: starEach es X.env := by rfl) (hpl : (backTo cpos (starEach es X.env)).any (·.1) = false := by rfl) (hd : (x == ("__debug__" : Str)) = false := by decide) :
    PS (X.handR pins a o) (.Raise (some (.Call (.Name x np) (e :: es) [] cpos)) (some (.Constant .none j npos)) pos) (tRaise C E t) := by
  intro pins' s σ H D I h
  obtain ⟨tl, N, nm, q, bs, hdct, sn, sub, ab, col, dd, k0, k1, k2, k3, k5, mN, hC, hN, hni, T⟩ := own.obj
  have hplain : (backTo cpos (starEach (e :: es) X.env)).any (·.1) = false := by rw [he]; show (false || (backTo cpos (starEach es X.env)).any (·.1)) = false; rw [hpl]; rfl
  rw [arm_exec_Raise]
  simp only [evalOpt, Option.map]
  refine wpAny_bind (wpAny_standAt (raise_from (C := C) (nm := nm) (q := q) (N := N) (bs := bs) (bm := tl) (hdct := hdct) (sn := sn) (sub := sub) (ab := ab) (col := col) (dd := dd) (k0 := k0) (k1 := k1) (k2 := k2) (k3 := k3) (k5 := k5) (newId := "ValueError.__new__") (a := a)
    (T.hasType PySem.F.excBase_ValueError.hasBase) rfl (fun s Q hq => wpAny_bind (Constant_none (wpAny_bind (wpAny_standAt (wpAny_pure hq))))) ?_))
  refine wpAny_bind (wpAny_mono (wpAny_Call_ofName (ld_glob I hg own.bound ?_ hd)) (fun v s₃ h₃ => wpAny_bind (wpAny_standAt (wpAny_pure h₃))) fun _ _ x => x)
  unfold callWith
  have h' := ha cpos pins' s σ H _ I h
  rw [he] at h'
  have hA : wpAny (model (X.handR pins a o).prog (X.handR pins a o).w) (X.handR pins a o).A (evalArgs (.ref C) true (backTo cpos (starEach (e :: es) X.env)) []) (fun as s' => as.kw = [] ∧ AP (X.handR pins a o) pins' σ (fun vs H1 => vs.length ≤ sizeLine ∧ E (Value.ref C) none H1) as.pos s') X.xe s := by
    rw [he]
    exact Calls.evalArgs_plain (thn h' fun us s2 z => ⟨rfl, z⟩)
  refine wpAny_bind (wpAny_holding (wpAny_mono hA (fun as s2 hs2 => wpAny_bind (wpAny_standAt ?_)) fun _ _ x => x))
  obtain ⟨apos, akw⟩ := as
  obtain ⟨hkw, vs, H1, I1, rv, hz, hE⟩ := hs2
  obtain rfl : akw = [] := hkw
  obtain ⟨hp, g, d, tk, os⟩ := s2
  simp only [hplain]
  refine wpAny_bind (wpAny_keeperOf_exc (I1.bk _ _ hC) ?_)
  refine wpAny_bind (wpAny_call_exc_subT (hrest := by have z := rv.length; show apos.length ≤ _; have z' : vs.length = apos.length := z; rw [← z']; exact hz) PySem.F.excBase_ValueError (T.keeps I1.bk) (I1.bk _ _ hC) (hN.keeps I1.bk) hni fun h' e' hm => wpAny_bind (wpAny_holding (wpAny_point (wpAny_pure ?_))))
  obtain ⟨t', ht, _, _⟩ := hm.there
  have ea : hp.get? a = some o := (I1.pin (a, o) (List.mem_append_left _ (List.mem_append_right _ (List.mem_singleton.mpr rfl)))).1
  have nw := hm.new
  refine ⟨e', t', o, rfl, hm.keeps _ _ (I1.bk _ _ hC), ht, hm.keeps _ _ ea, h2, fun z => (by rw [z, nw] at ea; cases ea), fun z => (by have q := I1.bk _ _ hC; rw [z] at q; have q' : hp.get? e' = _ := q; rw [nw] at q'; cases q'), fun h'' sb he'' => ?_⟩
  have kp : ∀ b u, hp.get? b = some u → h''.get? b = some u := fun b u eb => (sb.2 b (fun z => by rw [z, nw] at eb; cases eb)).trans (hm.keeps _ _ eb)
  exact hF pins σ H1 ⟨hp, g, d, tk, os⟩ h'' e' C t' a (I1.unhandR hok) kp nw he'' hE
end
def catchF (K : PySem.W.Frag) (c : Value) (th : Addr → Obj → TS) (D : Ends) : XK := fun cls dd H => PySem.W.exmOne K cls c = some true ∧
  ∀ (σ : St) (x : Addr) (o : Obj), o.cls = cls → o.dict = dd → H x = none → th x o D σ H
theorem catch_from {X : Cx} {c : Value} {y : Str} {np hpos : Pos} {b₀ : Stmt} {suite : List Stmt} {th : Addr → Obj → TS} (pins : List (Addr × Obj)) (D : Ends) (hst : X.stack = X.env :: X.outer) (hg : Gl X y) (hm : X.mg y = some c)
    (hpo : ∀ a, PassesOwnAt (model X.prog X.w) (X.A.mark (some (.ref a))) X.A X.env X.xe)
    (hh : ∀ a o, X.Ok → f2 o = some .none → PSs (X.handR pins a o) (b₀ :: suite) (th a o)) (hd : (y == ("__debug__" : Str)) = false := by decide) :
    Passes (CXN X.prog X.w) (X.tryX [.ExceptHandler (some (.Name y np)) none (b₀ :: suite) hpos] pins D) (catchF X.K c th D) := by
  intro pins' σ H s e s' J hq
  have I : Inv X pins σ H s := J.outtry
  obtain ⟨x, cls, a0, dd, c2, H', B, rfl, hc2, q, he, hs⟩ := hq
  obtain ⟨frm, L, hL⟩ := frame_of I.ok hst
  have q : XSt X.prog X.w X.stack H s H' B x cls a0 dd c2 s' := q
  have fly : Heap.FlyingW B (X.env :: X.outer) x cls a0 s'.heap := by rw [← hst]; exact q.fly
  refine looks_onD frm hL fly q.dct fun h4 held up4 dk4 => landsD held dk4 fun h5 fl5 up5' dk5 => ?_
  have up5 := up4.trans up5'
  have I5 := I.flown q (by rw [hst]; exact fl5) up5
  have ty : PySem.W.Looks (model X.prog X.w) h5 (typeOf (.ref x)) cls := by
    obtain ⟨ob, hob, hc⟩ := fl5.there
    subst hc
    exact (PySem.W.Looks.ld hob).andThen .now
  refine wpAny_handleBy_cons (codeAny_handlers_test ?_) (by intro z; cases z)
  have J5 := I5.hand x
  refine wpAny_mono (E := fun _ _ => False) (ld_glob (X := X.hand x) J5 hg hm ?_ hd) (fun _ _ z => z) fun _ _ z => False.elim z
  refine (PySem.W.exm_one J5.kIn ty he).here ?_
  dsimp only
  rw [if_pos rfl]
  dsimp only
  refine codeAny_handlers_suite (againD fl5 dk5 fun h6 fl6 up6 dk6 => ?_)
  have I6 := I.flown q (by rw [hst]; exact fl6) (up5.trans up6)
  obtain ⟨oe, ws, hoe, hoec, hoed, _⟩ := fl6.first
  have ff : h6.FunFrames B (X.env :: X.outer) := fl6.2.2.1
  have ne : x ≠ X.env.locals := fun z => by
    obtain ⟨m, ⟨ol, es, ep, e1, e2, _⟩, _⟩ := I6.loc
    rw [← z] at e1
    have e1' : h6.get? x = some ol := e1
    rw [hoe] at e1'
    cases e1'
    rw [hoed] at e2; cases e2
  have nf : x ∉ X.fs := fun z => by
    have z' : x ∈ (X.env :: X.outer).filterMap (·.frame) := by
      obtain ⟨en, g1, g2⟩ := List.mem_filterMap.mp z
      exact List.mem_filterMap.mpr ⟨en, List.mem_cons_of_mem _ g1, g2⟩
    obtain ⟨_, o', e', nfl⟩ := ff.mem z'
    rw [hoe] at e'; cases e'
    exact nfl _ hoed
  have I7 := I6.handR (a := x) (o := oe) hoe q.free ne nf (fun v z => by rw [hoed] at z; cases z)
  have hf2 : f2 oe = some .none := by rw [(dk6.2 oe hoe).2]; exact hc2
  refine wpAny_mono (hh x oe I.ok hf2 [] _ σ H' D I7 (hs σ x oe hoec (dk6.2 oe hoe).1 q.free)) (fun f s2 hf => ?_) (fun e2 s2 z => hpo x e2 s2 z)
  exact SP.unhandR I.ok hf
end L2
namespace L2
open PySem PySem.Spec PyProof.Rows
theorem funFrames_but {B h h' : Heap} : ∀ {l : List Env}, h.FunFrames B l → (∀ b ∈ frs l, h'.get? b = h.get? b) → h'.FunFrames B l
  | [], _, _ => trivial
  | env :: r, ⟨hk, ⟨L, o, hf, hn, ho, hd⟩, hr⟩, e => ⟨hk, ⟨L, o, hf, hn, (e L (List.mem_filterMap.mpr ⟨env, List.mem_cons_self, hf⟩)).trans ho, hd⟩, funFrames_but hr fun b hb => e b (by
    obtain ⟨en, g1, g2⟩ := List.mem_filterMap.mp hb
    exact List.mem_filterMap.mpr ⟨en, List.mem_cons_of_mem _ g1, g2⟩)⟩
theorem held_but {B h h' : Heap} {l : List Env} {x L C : Addr} {cls a0 : Value} {oC : Obj} (hh : Heap.HeldW B l x cls a0 L h) (hC : h.get? C = some oC) (hnf : ∀ vs, oC.data ≠ .fields vs) (hl : C ∉ frs l) (sb : Heap.SameBut C h h') : Heap.HeldW (PySem.W.hideAll B [C]) l x cls a0 L h' := by
  obtain ⟨f1, f2, f3, oe, vs, T, oT, ts, a1, a2, a3, a4, a5, a6, a7, a8, a9⟩ := PySem.W.heldW_base (base := PySem.W.hideAll B [C]) (fun b o q => PySem.W.of_hideAll _ q) hh
  have nx : x ≠ C := fun z => by rw [z, hC] at a1; cases a1; exact hnf _ a3
  have nT : T ≠ C := fun z => by rw [z, hC] at a7; cases a7; exact hnf _ a8
  refine ⟨fun b o q => ?_, f2, funFrames_but f3 fun b hb => sb.2 b (fun z => hl (by rw [← z]; exact hb)), oe, vs, T, oT, ts, (sb.2 x nx).trans a1, a2, a3, a4, a5, a6, (sb.2 T nT).trans a7, a8, a9⟩
  have nb : b ≠ C := fun z => by
    rw [z, PySem.W.hideAll_none _ (List.mem_singleton.mpr rfl)] at q; cases q
  exact (sb.2 b nb).trans (f1 b o q)
section
variable {M : Model} {A : Around} {E : Value → Shared → Prop} {s : Shared}
theorem setFlight_held {base : Heap} {l : List Env} {e L : Addr} {cls a0 : Value} {Q : Unit → Shared → Prop} (R : Heap.HeldW base l e cls a0 L s.heap)
    (h : ∀ h', Heap.HeldW base l e cls a0 L h' → s.heap.UpToSlots h' → Q () { s with heap := h' }) : wpAny M A (setFlight (.ref e) (some L)) Q E s := by
  obtain ⟨hkb, hen, hl, oe, vs, T, oT, ts, he, hcls, hd, h1, hnT, hTe, hT, hdT, h3⟩ := R
  have hsz3 : 3 < ts.size := (Array.getElem?_eq_some_iff.mp h3).1
  have other : ∀ b, b ≠ T → (s.heap.update T (Obj.mapFields (·.setIfInBounds 3 ((some L).elim Value.none fun f => rawInt f)))).get? b = s.heap.get? b :=
    fun b hb => Heap.get?_update_other _ _ (Ne.symm hb)
  have noRecord : ∀ b o, s.heap.get? b = some o → (∀ vs, o.data ≠ .fields vs) → b ≠ T := fun b o hb hnf q => by
    rw [q, hT] at hb; injection hb with hb; subst hb; exact hnf ts hdT
  unfold setFlight
  refine wpAny_bind (wpAny_field he hd h1 ?_)
  rw [if_pos (show (Value.ref T != Value.none) = true from by simp)]
  refine wpAny_setField hT hdT hsz3 (h _ ⟨fun b o hbo => (other b fun q => by rw [q, hnT] at hbo; cases hbo).trans (hkb b o hbo), hen,
    hl.of_keeps fun b o hb hnf => ⟨o, (other b (noRecord b o hb hnf)).trans hb, rfl⟩, ?_⟩ fun b o hb hnf => ⟨o.slots, (other b (noRecord b o hb hnf)).trans hb⟩)
  exact ⟨oe, vs, T, _, _, (other e (Ne.symm hTe)).trans he, hcls, hd, h1, hnT, hTe, Heap.get?_update_self _ hT (Obj.isFreed_of_fields (Obj.data_mapFields hdT _)), Obj.data_mapFields hdT _, by simp [hsz3]⟩
theorem heldD {base : Heap} {l : List Env} {e L : Addr} {cls a0 : Value} {dd : Option Addr} {c2 : Option Value} {Q : Unit → Shared → Prop} (R : Heap.HeldW base l e cls a0 L s.heap) (D : DictIs e dd c2 s.heap)
    (h : ∀ h', Heap.HeldW base l e cls a0 L h' → s.heap.UpToSlots h' → DictIs e dd c2 h' → Q () { s with heap := h' }) : wpAny M A (setFlight (.ref e) (some L)) Q E s :=
  wpAny_mono ((kd_setFlight (.ref e) (some L)).any D (setFlight_held (Q := fun _ s' => ∃ h', s' = { s with heap := h' } ∧ Heap.HeldW base l e cls a0 L h' ∧ s.heap.UpToSlots h') R fun h' f u => ⟨h', rfl, f, u⟩))
    (fun _ _ z => by obtain ⟨⟨h', rfl, f, u⟩, d⟩ := z; exact h h' f u d) fun _ _ x => x
theorem passOn_held {base : Heap} {l : List Env} {e L : Addr} {cls a0 : Value} {dd : Option Addr} {c2 : Option Value} {what : String} {env : Env} {Q : Value → Shared → Prop} (hf : env.frame = some L) (R : Heap.HeldW base l e cls a0 L s.heap) (D : DictIs e dd c2 s.heap)
    (h : ∀ h', Heap.HeldW base l e cls a0 L h' → s.heap.UpToSlots h' → DictIs e dd c2 h' → E (.ref e) { s with heap := h' }) : wpAny M A (PySem.passOn what (.ref e) env : Sem Value) Q E s := by
  unfold PySem.passOn
  obtain ⟨_, _, _, oe, vs, T, oT, ts, he, hcls, hd, h1, _⟩ := id R
  refine wpAny_bind (wpAny_field he hd h1 ?_)
  rw [if_neg (show ¬ ((Value.ref T == Value.none) = true) from by simp)]
  rw [hf]
  exact wpAny_bind (heldD R D fun h' f u d => wpAny_throw (h h' f u d))
end
theorem Un.fly2 {fs : List Addr} {H H' : Hp} {h h2 h' B : Heap} (u : Un fs [] H H' h h2) (kB : ∀ b o, h.get? b = some o → H b = none → b ∉ fs → B.get? b = some o) (tB : ∀ b o, h.get? b = some o → b ∉ fs → ∃ o', B.get? b = some o')
    (st : B.StaysIn h') (up : ∀ b ∈ fs, ∀ o, h2.get? b = some o → ∃ sl, h'.get? b = some { o with slots := sl }) : Un fs [] H H' h h' where
  keep := fun b o q n hb _ => st b o (kB b o q n hb)
  slot := fun b o q n hb hx => by
    obtain ⟨sl, e⟩ := u.slot b o q n hb hx
    obtain ⟨sl', e'⟩ := up b hb _ e
    exact ⟨sl', e'⟩
  free := u.free
  there := fun b o q hx => by
    by_cases hb : b ∈ fs
    · obtain ⟨o', e⟩ := u.there b o q hx
      obtain ⟨sl, e'⟩ := up b hb _ e
      exact ⟨_, e'⟩
    · obtain ⟨o', e⟩ := tB b o q hb
      exact ⟨o', st b o' e⟩
  tups := u.tups
  frzs := u.frzs
  tbls := u.tbls
def Cx.blockX (X : Cx) (pc : Option Value → Prop) (E : XK) (own : List Str) (sc : Scope) (b : Blk) : Cx :=
  { X.block own sc b with xe := fun e s' => ∃ pins σ H s, Inv (X.block own sc b) pins σ H s ∧ CXG pc X.prog X.w X.stack H s E e s' }
section
variable {X : Cx} {pc : Option Value → Prop} {E : XK} {own : List Str} {sc : Scope} {b : Blk} {pins : List (Addr × Obj)} {σ : St} {H : Hp} {s : Shared}
theorem Inv.toX (I : Inv (X.block own sc b) pins σ H s) : Inv (X.blockX pc E own sc b) pins σ H s :=
  ⟨⟨I.ok.mod, I.ok.kind, I.ok.glob, I.ok.blt, I.ok.above, I.ok.inj, I.ok.has, I.ok.cab, I.ok.hd, I.ok.frames, I.ok.stk, I.ok.exf, I.ok.bs, I.ok.bsz, I.ok.noex, I.ok.exfs, I.ok.funs, I.ok.frf⟩, I.os, I.bare, I.base, I.loc, I.cell, I.free, I.freeC, I.pin, I.hok, I.len⟩
theorem Inv.ofX (I : Inv (X.blockX pc E own sc b) pins σ H s) : Inv (X.block own sc b) pins σ H s :=
  ⟨⟨I.ok.mod, I.ok.kind, I.ok.glob, I.ok.blt, I.ok.above, I.ok.inj, I.ok.has, I.ok.cab, I.ok.hd, I.ok.frames, I.ok.stk, I.ok.exf, I.ok.bs, I.ok.bsz, I.ok.noex, I.ok.exfs, I.ok.funs, I.ok.frf⟩, I.os, I.bare, I.base, I.loc, I.cell, I.free, I.freeC, I.pin, I.hok, I.len⟩
theorem pass_blockX : Passes (CXG pc X.prog X.w) (X.blockX pc E own sc b) E := fun pins σ H s _ _ I hq => ⟨pins, σ, H, s, I.ofX, hq⟩
end
structure DefX (pc : Option Value → Prop) (X : Cx) (E : XK) : Prop where
  ex : X.ex = []
  st : X.stack = X.env :: X.outer
  xe : ∀ e s', wpAny (model X.prog X.w) X.A (leaving X.env e) (fun _ s'' => CXG pc X.prog X.w X.outer X.H₀ X.s₀ E e s'') (fun e s'' => CXG pc X.prog X.w X.outer X.H₀ X.s₀ E e s'') s' → X.xe e s'
theorem defx {pc : Option Value → Prop} {P : Program} {w : World} {K : PySem.W.Frag} {mg : Str → Option Value} {base : Heap} {N : List Str} {qual : Str} {scope : Scope} {f : Addr} {cd : Value} {A : Around} {outer : List Env} {s : Shared} {H : Hp} {E : XK} :
    DefX pc (cxOf (CXG pc P w) P w K mg base N qual scope f cd A outer s H E) E := ⟨rfl, rfl, fun _ _ h => h⟩
def errEnd (X : Cx) (benv : Env) (e : Value) (s' : Shared) : Prop := ∃ m, s'.heap.Ns benv.locals m ∧ ∀ h', Heap.SameBut benv.locals s'.heap h' → wpAny (model X.prog X.w) X.A (PySem.passOn "comprehension.variables-let-go" e benv : Sem Value) (fun _ _ => False) X.xe { s' with heap := h' }
theorem blk_err {X : Cx} {pc : Option Value → Prop} {E : XK} {own : List Str} {sc : Scope} {C : Addr} {ex : List Addr} {pins : List (Addr × Obj)} {σ : St} {H2 : Hp} {s3 s' : Shared} {e : Value} (DX : DefX pc X E) (I3 : Inv X pins σ H2 s3) (hex : ∀ b ∈ ex, FpOk X pins H2 b)
    (z : (X.blockX pc E own sc ⟨C, s3, H2, ex⟩).xe e s') :
    notedBy (model X.prog X.w) X.A (compEnvC sc (clOf X.env sc.names []) C X.env) (errEnd X (compEnvC sc (clOf X.env sc.names []) C X.env)) e s' := by
  obtain ⟨pins', σ', H, s, J, x, cls, a0, dd, c2, H', B, rfl, hp, q, hE⟩ := z
  have I : Inv X pins σ H s := I3.unblock J hex
  obtain ⟨frm, L, hL⟩ := frame_of I.ok DX.st
  have fly : Heap.FlyingW B (X.env :: X.outer) x cls a0 s'.heap := by rw [← DX.st]; exact q.fly
  have en : noteFrame (.ref x) (compEnvC sc (clOf X.env sc.names []) C X.env) = noteFrame (.ref x) X.env := rfl
  have eC : (X.block own sc ⟨C, s3, H2, ex⟩).env.locals = C := rfl
  obtain ⟨m, ⟨oC, es, ep, e1, e2, e3⟩, _⟩ := J.loc
  rw [eC] at e1
  have abv : s3.heap.objs.size ≤ C := J.ok.above
  have nfs : C ∉ frs X.stack := fun z => by
    rcases List.mem_cons.mp (I3.stkSub C z) with z | z
    · exact absurd (z ▸ I3.lt) (Nat.not_lt.mpr abv)
    · exact I3.nofs abv z
  have fC : H C = none := J.free
  have fC' : H' C = none := q.un.free C oC e1 fC (by simp)
  have BC : B.get? C = some oC := q.keepB C oC e1 fC nfs
  have hnf : ∀ vs, oC.data ≠ .fields vs := fun vs z => by rw [e2] at z; cases z
  unfold notedBy
  rw [en]
  refine looks_onD frm hL fly q.dct fun h4 held up4 dk4 => ?_
  have h4C : h4.get? C = some oC := held.1 C oC BC
  refine ⟨m, ⟨oC, es, ep, h4C, e2, e3⟩, fun h5 sb => ?_⟩
  have sb : Heap.SameBut C h4 h5 := sb
  have held5 : Heap.HeldW (PySem.W.hideAll B [C]) (X.env :: X.outer) x cls a0 L h5 := held_but held h4C hnf (by rw [← DX.st]; exact nfs) sb
  have nxC : x ≠ C := fun z => by
    have := q.new
    rw [z, e1] at this; cases this
  have dk5 : DictIs x dd c2 h5 := ⟨by
    obtain ⟨ob, hob, _⟩ := held5.there
    exact Heap.lt_size hob, fun o eo => dk4.2 o (by rw [← sb.2 x nxC]; exact eo)⟩
  refine passOn_held (s := { s' with heap := h5 }) (L := L) hL held5 dk5 fun h6 held6 up6 dk6 => ?_
  refine DX.xe _ _ ?_
  unfold leaving
  refine wpAny_bind (wpAny_noteFrame_againW hL held6.2.2.2 ?_)
  refine landsD held6 dk6 fun h7 fl7 up7 dk7 => ?_
  obtain ⟨k1, k2, ⟨_, _, k3⟩, k4⟩ := id fl7
  have fl8 : Heap.FlyingW (PySem.W.hideAll B [C]) X.outer x cls a0 h7 := ⟨k1, k2, k3, k4⟩
  have nx : ∀ b : Addr, b ∉ X.ex := fun b z => by rw [DX.ex] at z; simp at z
  have oldC : ∀ b o, X.s₀.heap.get? b = some o → b ≠ C := fun b o eb z => by
    have := Heap.lt_size eb
    rw [z] at this
    exact absurd this (Nat.not_lt.mpr (Nat.le_trans I3.sz abv))
  have hid : ∀ b o, b ≠ C → B.get? b = some o → (PySem.W.hideAll B [C]).get? b = some o := fun b o nb eb => PySem.W.hideAll_get _ eb (by simpa using nb)
  have kB : ∀ b o, X.s₀.heap.get? b = some o → X.H₀ b = none → b ∉ frs X.outer → (PySem.W.hideAll B [C]).get? b = some o := fun b o e n hb =>
    hid b o (oldC b o e) (q.keepB b o (I.base.keep b o e n hb (nx b)) (I.base.free b o e n (nx b)) (out_sub I e hb))
  have tB : ∀ b o, X.s₀.heap.get? b = some o → b ∉ frs X.outer → ∃ o', (PySem.W.hideAll B [C]).get? b = some o' := fun b o e hb => by
    obtain ⟨o1, e1⟩ := I.base.there b o e (nx b)
    obtain ⟨o2, e2⟩ := q.thereB b o1 e1 (out_sub I e hb)
    exact ⟨o2, hid b o2 (oldC b o e) e2⟩
  have I2 : Inv X pins σ H' s' := I.call' (ch := []) q.os q.un (q.hok.kept q.fly.1) q.bare (fun b z => absurd z (by simp))
  have u2 : Un (frs X.outer) [] X.H₀ H' X.s₀.heap s'.heap := by have := I2.base; rw [DX.ex] at this; exact this
  have sub : ∀ b ∈ frs X.outer, b ∈ frs X.stack := fun b hb => by
    rw [DX.st]
    obtain ⟨en, g1, g2⟩ := List.mem_filterMap.mp hb
    exact List.mem_filterMap.mpr ⟨en, List.mem_cons_of_mem _ g1, g2⟩
  have up : ∀ b ∈ frs X.outer, ∀ o, s'.heap.get? b = some o → ∃ sl, h7.get? b = some { o with slots := sl } := fun b hb o eb => by
    have nf := frames_nf q.fly.2.2.1 b (sub b hb) o eb
    obtain ⟨s4, z4⟩ := up4 b o eb nf
    have z5 := (sb.2 b (fun z => nfs (by rw [← z]; exact sub b hb))).trans z4
    obtain ⟨s6, z6⟩ := up6 b _ z5 nf
    obtain ⟨s7, z7⟩ := up7 b _ z6 nf
    exact ⟨s7, z7⟩
  have hokB : HOk X.prog X.w H' (PySem.W.hideAll B [C]) := fun a o ea => (q.hok a o ea).stay (fun b u hb eb => hid b u (fun z => by
    rcases hb with rfl | hb
    · rw [z, fC'] at ea; cases ea
    · rw [z, fC'] at hb; cases hb) eb) (fun _ q => q) fun _ _ q => q
  refine ⟨x, cls, a0, dd, c2, H', PySem.W.hideAll B [C], rfl, hp, ⟨I2.os, q.bare, u2.fly2 kB tB k1 up, hokB, kB, tB, fl8, q.free, ?_, dk7⟩, hE⟩
  cases e : X.s₀.heap.get? x with
  | none => rfl
  | some o =>
    obtain ⟨o1, e1⟩ := I.base.there x o e (nx x)
    rw [q.new] at e1
    cases e1
def compPostE (X : Cx) (use : Option (Value → Sem Unit)) (Q : Value → Shared → Prop) (acc : Value) (benv : Env) (r : Result) (s' : Shared) : Prop := match r with
  | .ok f => compPost (model X.prog X.w) X.A X.xe use Q acc benv.locals (.ok f) s'
  | .error x => errEnd X benv x s'
theorem comprehension_X {X : Cx} {s : Shared} {e : Expr} {scope : Scope} {pos : Pos} {newAcc first : Sem Value} {g : Comprehension} {gs : List Comprehension} {cl : List (Str × Addr)} {use : Option (Value → Sem Unit)}
    {Q : Value → Shared → Prop}
    (hcl : clausesOf e = g :: gs) (hs : ∀ x, foldedSetIterable g.iter X.env x = pure x) (hclos : closureFor scope X.env = pure cl)
    (hkind : scope.kind = .function) (hnames : ∀ x ∈ scope.names, x.2 = .local → scope.names.lookup x.1 = some .local)
    (h : wpAny (model X.prog X.w) X.A first (fun x s₁ => wpAny (model X.prog X.w) X.A (pyIter x) (fun it s₂ => wpAny (model X.prog X.w) X.A newAcc (fun acc s₃ =>
      wpAny (model X.prog X.w) X.A (newFunctionEnv scope X.env.globals cl [] X.env.qual none .none (some X.env)) (fun cenv s₄ =>
        codeAny (model X.prog X.w) X.A (.compStart e 0 it acc { cenv with scope := relabel scope X.env }) (compPostE X use Q acc { cenv with scope := relabel scope X.env }) s₄) X.xe s₃) X.xe s₂) X.xe s₁) X.xe s) :
    wpAny (model X.prog X.w) X.A (comprehension e scope X.env pos newAcc false first use) Q X.xe s := by
  unfold comprehension
  rw [hclos, hcl]
  refine wpAny_bind (wpAny_mono h (fun x s₁ h₁ => wpAny_bind (wpAny_standAt (wpAny_bind (wpAny_of_eq (hs x) (wpAny_bind (wpAny_holding (wpAny_mono h₁ (fun it s₂ h₂ =>
    wpAny_standIf (wpAny_bind (wpAny_mono h₂ (fun acc s₃ h₃ => wpAny_bind (wpAny_pure (wpAny_bind (wpAny_mono h₃ (fun cenv s₄ h₄ => ?_) fun _ _ h' => h')))) fun _ _ h' => h')))
      fun _ _ h' => h'))))))) fun _ _ h' => h')
  dsimp only
  have hv : ∀ x ∈ (scope.names.filter fun x => (x.2 == .local || x.2 == .cell) && x.1 != (".0" : Str)).reverse, x.2 = .local →
      Env.kindOf { cenv with scope := relabel scope X.env } x.1 = some .local := fun x hx hl => lookup_relabel_local (hnames x (List.mem_filter.mp (List.mem_reverse.mp hx)).1 hl)
  have hv' : ∀ x ∈ (scope.names.filter fun x => (x.2 == .local || x.2 == .cell) && x.1 != (".0" : Str)).reverse.drop 1 ++ (scope.names.filter fun x => (x.2 == .local || x.2 == .cell) && x.1 != (".0" : Str)).reverse.take 1,
      x.2 = .local → Env.kindOf { cenv with scope := relabel scope X.env } x.1 = some .local := fun x hx hl => by
    rcases List.mem_append.mp hx with h1 | h1
    · exact hv x (List.mem_of_mem_drop h1) hl
    · exact hv x (List.mem_of_mem_take h1) hl
  refine wpAny_holding (wpAny_bind (wpAny_attempt (wpAny_holding (wpAny_run (codeAny_mono h₄ fun r s' hr => ?_)))))
  cases r with
  | ok f =>
    cases use with
    | none =>
      obtain ⟨m, hn, hr⟩ := hr
      exact wpAny_bind (wpAny_holding (wpAny_comp_letGo (cenv := { cenv with scope := relabel scope X.env }) hkind _ s' m hv hn fun h' m' _ hs' => wpAny_pure (hr h' hs')))
    | some u =>
      refine wpAny_bind (wpAny_rule (wpAny_bind (wpAny_holding (wpAny_mono hr (fun _ s'' hr' => ?_) fun _ _ h' => h'))))
      obtain ⟨m, hn, hr'⟩ := hr'
      exact wpAny_bind (wpAny_comp_letGo (cenv := { cenv with scope := relabel scope X.env }) hkind _ s'' m hv' hn fun h' m' _ hs' => wpAny_pure (hr' h' hs'))
  | error x =>
    obtain ⟨m, hn, hr⟩ := hr
    exact wpAny_bind (wpAny_holding (wpAny_comp_letGo (cenv := { cenv with scope := relabel scope X.env }) hkind _ s' m hv hn fun h' m' _ hs' => wpAny_mono (hr h' hs') (fun _ _ f => f.elim) fun _ _ y => y))
theorem loop_compX {prog : Program} {w : World} {A : Around} {R : Result → Shared → Prop} {s : Shared} {elt target iter : Expr} {ifs : List Expr} {scope : Scope} {pos : Pos} {it acc : Value} {env : Env} (I : Nat → Shared → Prop)
    (turn : ∀ n s, I n s → wpAny (model prog w) A (pyNext it) (fun r s1 => match r with
      | none => R (.ok .next) s1
      | some v => wpAny (model prog w) A (letOwnedTupleGo target it v) (fun _ s1' => wpAny (model prog w) A (assign target env v) (fun _ s2 =>
          wpAny (model prog w) A (forIn ifs true fun c r => if r = true then do let ok ← isTrue c env (eval c env); pure (ForInStep.yield ok) else pure (ForInStep.yield r)) (fun ok s3 =>
            if ok = true then wpAny (model prog w) A (eval elt env) (fun x s4 =>
              wpAny (model prog w) A (call (.builtin "list.append") [acc, x]) (fun _ s5 => ∃ m, m < n ∧ I m s5) (notedBy (model prog w) A env fun e s' => R (.error e) s') s4) (notedBy (model prog w) A env fun e s' => R (.error e) s') s3
            else ∃ m, m < n ∧ I m s3) (notedBy (model prog w) A env fun e s' => R (.error e) s') s2) (notedBy (model prog w) A env fun e s' => R (.error e) s') s1') (notedBy (model prog w) A env fun e s' => R (.error e) s') s1) (notedBy (model prog w) A env fun e s' => R (.error e) s') s)
    (n : Nat) (h : I n s) : codeAny (model prog w) A (.compLoop (.ListComp elt [⟨target, iter, ifs, 0⟩] scope pos) 0 it acc env) R s := by
  refine codeAny_loop rfl I (fun n s hI => ?_) n h
  show wpAny _ A ((compTurn (.ListComp elt [⟨target, iter, ifs, 0⟩] scope pos) 0 it acc env).onRaise (fun x => do noteFrame x env; theTreesLotGoes x)) _ _ s
  refine wpAny_noted ?_
  rw [compTurn_list]
  refine wpAny_bind (wpAny_standAt (wpAny_bind (wpAny_mono (turn n s hI) (fun r s1 h1 => ?_) fun _ _ h' => h')))
  cases r with
  | none => exact wpAny_pure h1
  | some v =>
    refine wpAny_bind (wpAny_mono h1 (fun _ s1' h1' => ?_) fun _ _ h' => h')
    refine wpAny_bind (wpAny_mono h1' (fun _ s2 h2 => wpAny_bind (wpAny_mono h2 (fun ok s3 h3 => ?_) fun _ _ h' => h')) fun _ _ h' => h')
    cases ok with
    | false => exact wpAny_pure ⟨rfl, h3⟩
    | true =>
      exact wpAny_bind (wpAny_bind (wpAny_mono h3 (fun x s4 h4 => wpAny_bind (wpAny_mono h4 (fun _ s5 h5 => wpAny_pure (wpAny_pure ⟨rfl, h5⟩)) fun _ _ h' => h')) fun _ _ h' => h'))
section
variable {X : Cx} {pc : Option Value → Prop} {EE : XK} {own : List Str} {sc : Scope} {pins : List (Addr × Obj)} {σ : St} {tg iter elt : Expr} {ifs : List Expr} {wi : TI} {g : Blk → TG} {tt : Blk → TT} {te : Blk → TE} {pos : Pos}
theorem comp_runX {R : It → Hp → Prop} {Q : VK} {itv : Value} {s2 : Shared} {use : Option (Value → Sem Unit)} {QQ : Value → Shared → Prop} (hc : X.calm = true) (DX : DefX pc X EE) (S : CompSc X own sc)
    (hg : ∀ b, PG (X.blockX pc EE own sc b) tg (g b)) (ho : ∀ b, OwnG own.length (g b)) (ht : ∀ b, PF (X.blockX pc EE own sc b) ifs (tt b)) (he : ∀ b, PE (X.blockX pc EE own sc b) elt (te b))
    (hR : ∀ J H1, R J H1 → CompW J g tt te own.length σ H1 Q)
    (h2 : PIE X pins σ tg R itv s2)
    (fin : ∀ (acc C : Addr) (H : Hp) (s' : Shared), Inv X pins σ H s' → Q (.ref acc) H → FpOk X pins H C → (∃ m, s'.heap.Ns C m) → C < s'.heap.objs.size → X.env.locals ≠ C → (∀ x c, X.env.cells.lookup x = some c → c ≠ C) → compPost (model X.prog X.w) X.A X.xe use QQ (.ref acc) C (.ok .next) s') :
    wpAny (model X.prog X.w) X.A (newList []) (fun acc s3 => wpAny (model X.prog X.w) X.A (newFunctionEnv sc X.env.globals (clOf X.env sc.names []) [] X.env.qual none .none (some X.env)) (fun cenv s4 =>
      codeAny (model X.prog X.w) X.A (.compStart (.ListComp elt [⟨tg, iter, ifs, 0⟩] sc pos) 0 itv acc { cenv with scope := relabel sc X.env }) (compPostE X use QQ acc { cenv with scope := relabel sc X.env }) s4) X.xe s3) X.xe s2 := by
  obtain ⟨it, fp, tn, J, H2, e, I2, T, st2, f2, hr⟩ := h2
  subst e
  obtain ⟨W, ⟨m0, w0⟩, turn⟩ := hR J H2 hr
  refine wpAny_newList ?_
  have kp : ∀ b o, s2.heap.get? b = some o → (s2.heap.push { cls := .type "list", data := .seq ([] : List Value).toArray }).get? b = some o := fun b o e => Heap.get?_push_of_some _ e
  have I3 : Inv X pins σ H2 { s2 with heap := s2.heap.push { cls := .type "list", data := .seq ([] : List Value).toArray } } := I2.kept (t' := s2.toks) kp
  have sz3 : (s2.heap.push { cls := .type "list", data := .seq ([] : List Value).toArray }).objs.size = s2.heap.objs.size + 1 := Heap.size_push ..
  have tn3 : tn 0 (s2.heap.push { cls := .type "list", data := .seq ([] : List Value).toArray }) := T.keep _ _ _ st2 fun b _ o e => kp b o e
  have accO : (s2.heap.push { cls := .type "list", data := .seq ([] : List Value).toArray }).get? s2.heap.objs.size = some { cls := .type "list", data := .seq ([] : List Value).toArray } := Heap.get?_push_size _ rfl
  generalize hs3 : ({ s2 with heap := s2.heap.push { cls := .type "list", data := .seq ([] : List Value).toArray } } : Shared) = s3 at I3
  have hh3 : s3.heap = s2.heap.push { cls := .type "list", data := .seq ([] : List Value).toArray } := by rw [← hs3]
  rw [← hh3] at sz3 tn3 accO
  have facc : FpOk X pins H2 s2.heap.objs.size := I2.fpOk (Nat.le_refl _) (I2.hok.fresh (Nat.le_refl _))
  have hex : ∀ b ∈ s2.heap.objs.size :: fp, FpOk X pins H2 b := fun b hb => by
    rcases List.mem_cons.mp hb with rfl | hb
    · exact facc
    · exact f2 b hb
  have hob : ∀ b ∈ s2.heap.objs.size :: fp, b < s3.heap.objs.size := fun b hb => by
    rcases List.mem_cons.mp hb with rfl | hb
    · rw [sz3]; exact Nat.lt_succ_self _
    · obtain ⟨o, e, _⟩ := T.obj _ _ st2 b hb
      rw [sz3]; exact Nat.lt_succ_of_lt (Heap.lt_size e)
  have accfp : s2.heap.objs.size ∉ fp := fun hb => by
    obtain ⟨o, e, _⟩ := T.obj _ _ st2 _ hb
    exact absurd (Heap.lt_size e) (Nat.lt_irrefl _)
  refine wpAny_newFunctionEnv S.nocell (by intro y hy; simp at hy) (fun h1 hns1 hsb1 => ?_) S.kind
  have hk1 : ∀ b o, s3.heap.get? b = some o → h1.get? b = some o := fun b o e => (hsb1.2 b (Nat.ne_of_lt (Heap.lt_size e))).trans (Heap.get?_push_of_some _ e)
  have I4 := (I3.block (own := own) (t' := s3.toks + ([] : List (Str × Value)).length) S hex hob hns1 hk1).toX (pc := pc) (E := EE)
  have errR : ∀ e s', (X.blockX pc EE own sc ⟨s3.heap.objs.size, s3, H2, s2.heap.objs.size :: fp⟩).xe e s' → notedBy (model X.prog X.w) X.A (compEnvC sc (clOf X.env sc.names []) s3.heap.objs.size X.env) (errEnd X (compEnvC sc (clOf X.env sc.names []) s3.heap.objs.size X.env)) e s' := fun e s' z => blk_err DX I3 hex z
  generalize hB : X.blockX pc EE own sc ⟨s3.heap.objs.size, s3, H2, s2.heap.objs.size :: fp⟩ = B at I4 errR
  have eB : B.env = compEnvC sc (clOf X.env sc.names []) s3.heap.objs.size X.env := by rw [← hB]; rfl
  have locFr : ∀ b ∈ s2.heap.objs.size :: fp, b ≠ B.env.locals ∧ b ∉ B.fs ∧ (b ∈ B.ex ∨ B.s₀.heap.objs.size ≤ b) ∧ (∀ x c, B.env.cells.lookup x = some c → c ≠ b) := fun b hb => by
    subst hB
    exact ⟨(I4.ok.exf b hb).1, I4.ok.exfs b hb, .inl hb, (I4.ok.exf b hb).2⟩
  have pne : ∀ b ∈ s2.heap.objs.size :: fp, ∀ p ∈ B.pn ++ (X.pn ++ pins), p.1 ≠ b := fun b hb p hp => by
    subst hB
    exact (hex b hb).2.2.2.2.2 p hp
  -- the loop
  have loop : ∀ s4 : Shared, s4 = { s3 with heap := h1, toks := s3.toks + ([] : List (Str × Value)).length } →
      codeAny (model X.prog X.w) X.A (.compLoop (.ListComp elt [⟨tg, iter, ifs, 0⟩] sc pos) 0 (.ref it) (.ref s2.heap.objs.size) (compEnvC sc (clOf X.env sc.names []) s3.heap.objs.size X.env))
        (compPostE X use QQ (.ref s2.heap.objs.size) (compEnvC sc (clOf X.env sc.names []) s3.heap.objs.size X.env)) s4 := by
    rintro s4 rfl
    refine loop_compX (fun n s' => ∃ i vs its k H', Inv B (X.pn ++ pins) (List.replicate own.length none ++ σ) H' s' ∧ tn i s'.heap ∧ (∀ b ∈ s2.heap.objs.size :: fp, H' b = none) ∧
      s'.heap.get? s2.heap.objs.size = some { cls := .type "list", data := .seq (its : List Value).toArray k } ∧ Vals vs its ∧ W i n vs H') ?_ m0
      ⟨0, [], [], 0, H2, I4, T.keep _ _ _ tn3 fun b _ o e => hk1 b o e, fun b hb => (hex b hb).1, hk1 _ _ accO, .nil, w0⟩
    rintro n s5 ⟨i, vs, its, k, H5, I5, tn5, fr5, ao5, rv5, w5⟩
    have PB : B.prog = X.prog ∧ B.w = X.w ∧ B.K = X.K ∧ B.A = X.A ∧ B.calm = X.calm ∧ True := by subst hB; exact ⟨rfl, rfl, rfl, rfl, rfl, trivial⟩
    obtain ⟨p1, p2, p3, p4, p5, p6⟩ := PB
    have stat : ∀ {pp : List (Addr × Obj)} {H' : Hp}, (∀ b ∈ s2.heap.objs.size :: fp, H' b = none) → (∀ b ∈ fp, ∀ p ∈ pp, p.1 ≠ b) → ∀ b ∈ fp, FpOk B ((X.pn ++ pins) ++ pp) H' b := fun hn hp b hb =>
      ⟨hn b (List.mem_cons_of_mem _ hb), (locFr b (List.mem_cons_of_mem _ hb)).1, (locFr b (List.mem_cons_of_mem _ hb)).2.1, (locFr b (List.mem_cons_of_mem _ hb)).2.2.1, (locFr b (List.mem_cons_of_mem _ hb)).2.2.2, fun p hp' => by
        rw [← List.append_assoc] at hp'
        rcases List.mem_append.mp hp' with z | z
        · exact pne b (List.mem_cons_of_mem _ hb) p z
        · exact hp b hb p z⟩
    -- the growing list, pinned
    have I5' : Inv B ((X.pn ++ pins) ++ [(s2.heap.objs.size, { cls := .type "list", data := .seq its.toArray k })]) (List.replicate own.length none ++ σ) H5 s5 := I5.pins_of fun p hp => by
      rcases List.mem_append.mp hp with z | z
      · exact I5.pin p (List.mem_append_right _ z)
      · have e : p = (s2.heap.objs.size, { cls := .type "list", data := .seq its.toArray k }) := by simpa using z
        subst e
        exact ⟨ao5, fr5 _ List.mem_cons_self, (locFr _ List.mem_cons_self).1, (locFr _ List.mem_cons_self).2.1, fun v z => by cases z⟩
    have stat' : ∀ b ∈ fp, FpOk B ((X.pn ++ pins) ++ [(s2.heap.objs.size, ({ cls := .type "list", data := .seq its.toArray k } : Obj))]) H5 b := stat fr5 fun b hb p hp z => by
      have e : p = (s2.heap.objs.size, { cls := .type "list", data := .seq its.toArray k }) := by simpa using hp
      subst e
      exact accfp (by rw [show s2.heap.objs.size = b from z]; exact hb)
    rcases turn i n vs H5 w5 with ⟨stop, zl, qn⟩ | ⟨go, zl, step⟩
    · have D := T.done B p1 p2 p3 (p5.trans hc) i _ s5 _ H5 (fun _ _ => False) I5' stat' tn5 stop
      rw [p4] at D
      refine wpAny_mono D (fun r s6 ⟨hr6, I6⟩ => ?_) fun _ _ z => False.elim z
      subst hr6
      -- the end
      have ao6 := (I6.pin (s2.heap.objs.size, { cls := .type "list", data := .seq its.toArray k }) (List.mem_append_right _ (List.mem_append_right _ (by simp)))).1
      have I6x := I6
      rw [← hB] at I6x
      have K6 : Inv X pins σ H5 s6 := I3.unblock I6x.ofX hex
      have fa : FpOk X pins H5 s2.heap.objs.size := ⟨fr5 _ List.mem_cons_self, facc.2⟩
      have K7 : Inv X pins σ (upd H5 s2.heap.objs.size (.lst vs)) s6 := K6.track fa ⟨zl, its, k, rv5, ao6⟩
      obtain ⟨mC, nsC, _⟩ := I6.loc
      have nsC' : s6.heap.Ns s3.heap.objs.size mC := by rw [eB] at nsC; exact nsC
      have ltC : s3.heap.objs.size < s6.heap.objs.size := nsC'.lt
      have lX : X.env.locals < s3.heap.objs.size := I3.lt
      have cX : ∀ x c, X.env.cells.lookup x = some c → c ≠ s3.heap.objs.size := fun x c e => by
        obtain ⟨v, q⟩ := I3.cell x c e
        exact Nat.ne_of_lt q.lt
      have frC : upd H5 s2.heap.objs.size (.lst vs) s3.heap.objs.size = none := by
        rw [upd_ne (by rw [sz3]; exact Nat.succ_ne_self _)]
        have z := I6.free
        rw [eB] at z; exact z
      exact fin _ _ _ s6 K7 (qn _ (fr5 _ List.mem_cons_self)) ⟨frC, Ne.symm (Nat.ne_of_lt lX), I3.nofs (Nat.le_refl _), .inr I3.sz, cX, fun p hp => Nat.ne_of_lt (Heap.lt_size (I3.pin p hp).1)⟩ ⟨mC, nsC'⟩ ltC (Nat.ne_of_lt lX) cX
    · have D := T.item B p1 p2 p3 (p5.trans hc) i _ s5 _ H5 (fun _ _ => False) I5' stat' tn5 go
      rw [p4] at D
      refine wpAny_mono D (fun r s6 ⟨u, hr6, h6⟩ => ?_) fun _ _ z => False.elim z
      subst hr6
      refine wpAny_mono h6 (fun _ s7 ⟨x, H7, I7, r7, y7, tn7, fr7⟩ => ?_) fun _ _ z => False.elim z
      have fr7' : ∀ b ∈ s2.heap.objs.size :: fp, H7 b = none := fun b hb => by
        rcases List.mem_cons.mp hb with rfl | hb
        · exact (I7.pin (s2.heap.objs.size, { cls := .type "list", data := .seq its.toArray k }) (List.mem_append_right _ (List.mem_append_right _ (by simp)))).2.1
        · exact fr7 b hb
      -- the iterator's records, pinned too
      have I7' := I7.pinned (fun b hb => (stat fr7' (fun b hb p hp z => by
        have e : p = (s2.heap.objs.size, { cls := .type "list", data := .seq its.toArray k }) := by simpa using hp
        subst e
        exact accfp (by rw [show s2.heap.objs.size = b from z]; exact hb))) b hb) (T.obj _ _ tn7)
      have G := hg ⟨s3.heap.objs.size, s3, H2, s2.heap.objs.size :: fp⟩
      rw [hB] at G
      have gq := ho ⟨s3.heap.objs.size, s3, H2, s2.heap.objs.size :: fp⟩ x (List.replicate own.length none) σ H7 _ (by simp) (step ⟨s3.heap.objs.size, s3, H2, s2.heap.objs.size :: fp⟩ x H7 y7)
      have G' := G _ s7 _ H7 x u _ I7' r7 gq
      rw [p4, p1, p2, eB] at G'
      refine wpAny_mono G' (fun _ s8 ⟨σ8, H8, I8, ⟨pre8, lp8, es8⟩, q8⟩ => ?_) fun e' s' z => errR e' s' z
      have Tt := ht ⟨s3.heap.objs.size, s3, H2, s2.heap.objs.size :: fp⟩
      rw [hB] at Tt
      have Tt' := Tt _ s8 σ8 H8 _ I8 q8
      rw [p4, p1, p2, eB] at Tt'
      refine wpAny_mono Tt' (fun c s9 ⟨H9, I9, q9⟩ => ?_) fun e' s' z => errR e' s' z
      -- behind a turn: the pins are forgotten, the own names too
      have weak : ∀ {s' : Shared} {H' : Hp} {pp : List (Addr × Obj)}, Inv B pp σ8 H' s' → (∀ p ∈ X.pn ++ pins, p ∈ pp) → Inv B (X.pn ++ pins) (List.replicate own.length none ++ σ) H' s' := fun {s' H' pp} II hp => by
        have II2 : Inv B (X.pn ++ pins) σ8 H' s' := II.pins_of fun p hpp => II.pin p (List.mem_append_right _ (hp p hpp))
        refine II2.weak (by rw [es8, List.length_append, List.length_append, List.length_replicate, lp8]) fun j v hv => ?_
        have hj : own.length ≤ j := by
          rcases Nat.lt_or_ge j own.length with z | z
          · rw [List.getElem?_append_left (by simpa using z), List.getElem?_replicate, if_pos z] at hv
            cases hv
          · exact z
        rw [List.getElem?_append_right (by simpa using hj), List.length_replicate] at hv
        rw [es8, List.getElem?_append_right (by rw [lp8]; exact hj), lp8]
        exact hv
      have sub : ∀ p ∈ X.pn ++ pins, p ∈ (X.pn ++ pins ++ [(s2.heap.objs.size, ({ cls := .type "list", data := .seq its.toArray k } : Obj))]) ++ pinsAt fp s7.heap := fun p hp => List.mem_append_left _ (List.mem_append_left _ hp)
      have pinA : ∀ {s' : Shared} {H' : Hp}, Inv B ((X.pn ++ pins ++ [(s2.heap.objs.size, ({ cls := .type "list", data := .seq its.toArray k } : Obj))]) ++ pinsAt fp s7.heap) σ8 H' s' →
          s'.heap.get? s2.heap.objs.size = some { cls := .type "list", data := .seq its.toArray k } ∧ (∀ b ∈ s2.heap.objs.size :: fp, H' b = none) ∧ tn (i + 1) s'.heap := fun {s' H'} II => by
        have a := II.pin (s2.heap.objs.size, { cls := .type "list", data := .seq its.toArray k }) (List.mem_append_right _ (List.mem_append_left _ (List.mem_append_right _ (by simp))))
        have bb : ∀ b ∈ fp, ∀ o, s7.heap.get? b = some o → s'.heap.get? b = some o ∧ H' b = none := fun b hb o e =>
          have z := II.pin (b, o) (List.mem_append_right _ (List.mem_append_right _ (mem_pinsAt hb e)))
          ⟨z.1, z.2.1⟩
        refine ⟨a.1, fun b hb => ?_, T.keep _ _ _ tn7 fun b hb o e => (bb b hb o e).1⟩
        rcases List.mem_cons.mp hb with rfl | hb
        · exact a.2.1
        · obtain ⟨o, e, _⟩ := T.obj _ _ tn7 b hb
          exact (bb b hb o e).2
      cases c with
      | false =>
        rw [if_neg (by simp)] at q9 ⊢
        obtain ⟨m', hm, w9⟩ := q9
        obtain ⟨a9, f9, t9⟩ := pinA I9
        exact ⟨m', hm, i + 1, vs, its, k, H9, weak I9 sub, t9, f9, a9, rv5, w9⟩
      | true =>
        rw [if_pos rfl] at q9 ⊢
        have Te := he ⟨s3.heap.objs.size, s3, H2, s2.heap.objs.size :: fp⟩
        rw [hB] at Te
        have Te' := Te _ s9 σ8 H9 _ I9 q9
        rw [p4, p1, p2, eB] at Te'
        refine wpAny_mono Te' (fun y s10 ⟨v, H10, I10, r10, m', hm, w10⟩ => ?_) fun e' s' z => errR e' s' z
        obtain ⟨a10, f10, t10⟩ := pinA I10
        have zl' : its.length < sizeLine := by
          have := rv5.length
          omega
        have q10 := PySem.IsL.update a10 (fun z => z.push y)
        rw [show its.toArray.push y = (its ++ [y]).toArray by simp] at q10
        refine call_meets F.slot_list_append ⟨_, a10, rfl⟩ F.entry_list_append (F.args_list_append_2 _ _) (PySem.list_append s2.heap.objs.size its.toArray k y (by rw [List.size_toArray]; omega)) ⟨a10, ?_⟩
        have I11 := weak I10 sub
        have fz := locFr _ (List.mem_cons_self (a := s2.heap.objs.size) (l := fp))
        have oth : ∀ b o, b ≠ s2.heap.objs.size → s10.heap.get? b = some o → (s10.heap.update s2.heap.objs.size (Obj.mapSeq fun z => z.push y)).get? b = some o := fun b o hb e => (Heap.get?_update_other s10.heap _ (Ne.symm hb)).trans e
        have I12 : Inv B (X.pn ++ pins) (List.replicate own.length none ++ σ) H10 { s10 with heap := s10.heap.update s2.heap.objs.size (Obj.mapSeq fun z => z.push y) } :=
          I11.turned (t' := s10.toks) oth (f10 _ List.mem_cons_self) fz.1 fz.2.2.1 fz.2.2.2 (pne _ List.mem_cons_self)
        exact ⟨m', hm, i + 1, vs ++ [v], its ++ [y], _, H10, I12, T.keep _ _ _ t10 fun b hb o e => oth b o (fun z => accfp (by rw [← z]; exact hb)) e, f10, q10, rv5.append (.cons r10 .nil), w10⟩
  exact codeAny_compStart_list (loop _ rfl) (T.self X.A 0 _ _ _ (T.keep _ _ _ tn3 fun b _ o e => hk1 b o e) (loop _ rfl))
theorem ps_compX {i : Nat} {x : Str} {pos' spos : Pos} (hN : X.N.Nodup) (hxi : X.N[i]? = some x) (hx : Loc X.env.scope x) (hc : X.calm = true) (DX : DefX pc X EE) (S : CompSc X own sc) (hi : PI X tg iter wi) (hg : ∀ b, PG (X.blockX pc EE own sc b) tg (g b)) (ho : ∀ b, OwnG own.length (g b))
    (ht : ∀ b, PF (X.blockX pc EE own sc b) ifs (tt b)) (he : ∀ b, PE (X.blockX pc EE own sc b) elt (te b)) (hs : ∀ x, foldedSetIterable iter X.env x = pure x := by intro _; rfl)
    (hsw : swapsWith (.ListComp elt [⟨tg, iter, ifs, 0⟩] sc pos) (some (.Name x pos')) spos.line X.env = pure true := by rfl) (hf : X.fn x = true ∨ X.env.scope.names.lookup x = some .local := by first | exact .inl rfl | exact .inr rfl | assumption) :
    PS X (.Assign [.Name x pos'] (.ListComp elt [⟨tg, iter, ifs, 0⟩] sc pos) spos) (tAsg (tComp own.length wi g tt te) (gName i)) := by
  intro pins s σ H D I h
  rw [exec_Assign_Name_used _ _ _ _ hsw]
  refine wpAny_bind (wpAny_standAt (wpAny_bind ?_))
  show wpAny _ X.A (do let _ ← comprehension (.ListComp elt [⟨tg, iter, ifs, 0⟩] sc pos) sc X.env _ (newList []) false (eval iter X.env) (some (assign (.Name x pos') X.env))) _ _ s
  refine wpAny_bind (wpAny_mono (comprehension_X (use := some (assign (.Name x pos') X.env)) (g := ⟨tg, iter, ifs, 0⟩) (gs := []) (Q := fun _ s' => SP X pins D .next s') rfl hs (S.closed I.ok) S.kind S.loc ?_)
    (fun _ s' hq => wpAny_pure (wpAny_pure hq)) fun _ _ e => e)
  refine thn (hi pins s σ H _ I h) fun v s1 h1 => thn h1 fun itv s2 h2 => ?_
  refine comp_runX (Q := fun y H1 => gName i y σ H1 D.nx) hc DX S hg ho ht he (fun J H1 r => r) h2 fun acc C H' s' K q fC nsC ltC lC cC => ?_
  obtain ⟨m, nsC⟩ := nsC
  refine wpAny_assign_Name (store_ok2 K hN hxi hx (v := .ref acc) (u := .ref acc) rfl (fun s'' K2 hsb => ?_) hf)
  obtain ⟨a, hsb, ha⟩ := hsb
  have nC : C ≠ a := by
    rcases ha with z | z
    · rw [z]; exact Ne.symm lC
    · exact Ne.symm (cC x a z)
  refine ⟨m, nsC.sameBut hsb nC, fun h' hsb' => ⟨_, H', ?_, q⟩⟩
  exact K2.turned (t' := s''.toks) (fun b o hb e => (hsb'.2 b hb).trans e) fC.1 fC.2.1 fC.2.2.2.1 fC.2.2.2.2.1 fC.2.2.2.2.2
end
end L2
namespace Hd
open PySem L2
def top (i : Nat) : Stmt := PySem.Challenge.pw_hedgerow_k05_spoilt_texts.main.body.getD i (.Pass ⟨0, 0, 0, 0⟩)
abbrev sCell : Stmt := top 17
abbrev sMix : Stmt := top 18
abbrev sLarge : Stmt := top 19
abbrev sOrder : Stmt := top 20
abbrev sHedge : Stmt := top 21
theorem same_new {H : Hp} {p : Addr} (h : H p = none) (o : HO) : Same H (upd H p o) := fun b u q => by rw [upd_ne (ne_of_none q h)]; exact q
theorem same_tup {K : PySem.W.Frag} {H H' : Hp} {a : Addr} {xs : List V} (e : Same H H') (h : SqT K H a xs) : SqT K H' a xs := by
  rcases h with (h | ⟨o, h⟩) | h
  · exact .inl (.inl (e _ _ h))
  · exact .inl (.inr ⟨o, e _ _ h⟩)
  · exact .inr h
theorem same_pairs {K : PySem.W.Frag} {H H' : Hp} {as : List Addr} {ks : List (Int × Int)} (e : Same H H') (h : IsPairs K H as ks) : IsPairs K H' as ks := ⟨h.1, fun i a k h1 h2 => same_tup e (h.2 i a k h1 h2)⟩
theorem cm {j : Int} (h0 : 0 ≤ j) (h1 : j ≤ 1000) : -(2 ^ 64) < j ∧ j < 2 ^ 64 := by
  have e : (2 ^ 64 : Int) = 18446744073709551616 := by decide
  rw [e]; omega
theorem big {j : Int} (h0 : 0 ≤ j) (h1 : j ≤ 1000) : -(2 ^ 62) ≤ j ∧ j < 2 ^ 62 := by
  have e : (2 ^ 62 : Int) = 4611686018427387904 := by decide
  rw [e]; omega
theorem line2 : 2 ≤ sizeLine := by rw [sizeLine_eq]; decide
theorem line0 : 0 ≤ sizeLine := Nat.zero_le _
theorem at_map {ns : List Int} {k : Int} (h0 : 0 ≤ k) (h : k < (ns.length : Int)) : atI (ns.map V.int) k = some (.int (HG.cellM ns k)) := by
  have hk : k.toNat < ns.length := by omega
  have ek : k = ((k.toNat : Nat) : Int) := by omega
  have q : atI (ns.map V.int) ((k.toNat : Nat) : Int) = some (.int (HG.cellM ns k)) := atI_nat (by rw [List.getElem?_map, List.getElem?_eq_getElem hk]; unfold HG.cellM; rw [List.getD_eq_getElem?_getD, List.getElem?_eq_getElem hk]; rfl)
  rw [← ek] at q
  exact q
theorem pairs_snoc {K : PySem.W.Frag} {H : Hp} {as : List Addr} {ks : List (Int × Int)} {a : Addr} {k : Int × Int} (h : IsPairs K H as ks) (ha : SqT K H a [.int k.1, .int k.2]) : IsPairs K H (as ++ [a]) (ks ++ [k]) := by
  obtain ⟨hl, hp⟩ := h
  refine ⟨by simp [hl], fun i b c h1 h2 => ?_⟩
  by_cases hi : i < as.length
  · rw [List.getElem?_append_left hi] at h1
    rw [List.getElem?_append_left (by omega)] at h2
    exact hp i b c h1 h2
  · rw [List.getElem?_append_right (by omega)] at h1
    rw [List.getElem?_append_right (by omega)] at h2
    have e1 : i - as.length = 0 := by
      cases q : i - as.length with
      | zero => rfl
      | succ m => rw [q] at h1; simp at h1
    have e2 : i - ks.length = 0 := by omega
    rw [e1] at h1
    rw [e2] at h2
    simp at h1 h2
    subst h1 h2
    exact ha
section
variable {P : Program} {w : World} {K : PySem.W.Frag} {mg : Str → Option Value} {base : Heap}
def spCell (K : PySem.W.Frag) : Sp := fun vs H Q _ => ∃ (a : Addr) (ns : List Int) (k : Int), vs = [.ref a, .int k] ∧ SqL K H a (ns.map V.int) ∧ 0 ≤ k ∧ Q (.int (HG.cellM ns k)) H
theorem scCell : FnScope ["_law_script", "_law_k"] ["_law_script", "_law_k"] (defScope sCell) := ⟨rfl, rfl, rfl, by decide +kernel, rfl, by decide +kernel, by decide +kernel⟩
theorem ok_cell {k : Nat} {f : Addr} {fd : FuncData} (F : Fun K "_law_cell" "_law_cell" sCell f fd) (ml : mg "len" = none) : FnOk P w K mg base CX0 (k + 1) f fd ["_law_script", "_law_k"] (spCell K) := by
  refine F.ok scCell (fun vs H Q E h => ?_) (fun cdv A outer s H vs Q E hr h => ?_)
  · obtain ⟨a, ns, k, rfl, _⟩ := h
    rfl
  obtain ⟨a, ns, k, rfl, hS, h0, q⟩ := h
  refine ⟨_, pss_cons (ps_if (pt_cmpR op_lt (pv 1) (pe_callB call_len_seq rfl ml PySem.boot_len (pa_cons (pv 0) pa_nil)) (nomark _)) (pss_one (ps_ret (pe_ix ix_list (pv 0) (pv 1) (fun _ _ => rfl)))) pss_nil) (pss_one (ps_ret pe_int)), ?_⟩
  have hl : (ns.map V.int).length = ns.length := List.length_map _
  refine ⟨_, rfl, _, rfl, a, _, rfl, .inl hS, _, _, rfl, rfl, _, rfl, ?_⟩
  refine ite2 (fun c => ?_) (fun c => ?_)
  · have c' : k < (((ns.map V.int).length : Nat) : Int) := of_decide_eq_true c
    rw [hl] at c'
    exact ⟨_, rfl, _, rfl, a, _, _, _, rfl, rfl, hS, at_map h0 c', q⟩
  · have c' : ¬ k < (((ns.map V.int).length : Nat) : Int) := of_decide_eq_false (Bool.eq_false_iff.mpr c)
    rw [hl] at c'
    have e : HG.cellM ns k = 0 := by
      unfold HG.cellM
      rw [List.getD_eq_getElem?_getD, List.getElem?_eq_none (by omega)]; rfl
    rw [e] at q
    exact q
def spMix : Sp := fun vs H Q _ => ∃ c p m : Int, vs = [.int c, .int p, .int m] ∧ 0 < p ∧ 0 < m ∧ Q (.int (HG.mixM c p m)) H
theorem scMix : FnScope ["_law_cell_here", "_law_prime", "_law_many"] ["_law_cell_here", "_law_prime", "_law_many"] (defScope sMix) := ⟨rfl, rfl, rfl, by decide +kernel, rfl, by decide +kernel, by decide +kernel⟩
theorem ok_mix {k : Nat} {f : Addr} {fd : FuncData} (F : Fun K "_law_mix" "_law_mix" sMix f fd) : FnOk P w K mg base CX0 (k + 1) f fd ["_law_cell_here", "_law_prime", "_law_many"] spMix := by
  refine F.ok scMix (fun vs H Q E h => ?_) (fun cdv A outer s H vs Q E hr h => ?_)
  · obtain ⟨c, p, m, rfl, _⟩ := h
    rfl
  obtain ⟨c, p, m, rfl, hp, hm, q⟩ := h
  refine ⟨_, pss_one (ps_ret (pe_op op_mod (pe_op op_mod (pe_op op_mul (pv 0) pe_int) (pv 1)) (pv 2))), ?_⟩
  exact ⟨_, rfl, _, _, rfl, rfl, .inr ⟨by decide, by decide⟩, _, rfl, _, _, rfl, rfl, hp, _, rfl, _, _, rfl, rfl, hm, q⟩
def spLarge (K : PySem.W.Frag) : Sp := fun vs H Q _ => ∃ (a : Addr) (ns : List Int), vs = [.ref a] ∧ SqL K H a (ns.map V.int) ∧ ∀ b, Q (.bl b) H
theorem scLarge : FnScope ["_law_script"] ["_law_script"] (defScope sLarge) := ⟨rfl, rfl, rfl, by decide +kernel, rfl, by decide +kernel, by decide +kernel⟩
theorem ok_large {k : Nat} {f fc fm : Addr} {fd dc dm : FuncData} (F : Fun K "_law_large" "_law_large" sLarge f fd)
    (GC : FnOk P w K mg base CX0 k fc dc ["_law_script", "_law_k"] (spCell K)) (bC : Binds K dc ["_law_script", "_law_k"] []) (kC : PySem.W.keepIn K (.ref fc) = true) (mC : mg "_law_cell" = some (.ref fc))
    (GM : FnOk P w K mg base CX0 k fm dm ["_law_cell_here", "_law_prime", "_law_many"] spMix) (bM : Binds K dm ["_law_cell_here", "_law_prime", "_law_many"] []) (kM : PySem.W.keepIn K (.ref fm) = true) (mM : mg "_law_mix" = some (.ref fm)) (ml : mg "len" = none) :
    FnOk P w K mg base CX0 (k + 1) f fd ["_law_script"] (spLarge K) := by
  refine F.ok scLarge (fun vs H Q E h => ?_) (fun cdv A outer s H vs Q E hr h => ?_)
  · obtain ⟨a, ns, rfl, _⟩ := h
    rfl
  obtain ⟨a, ns, rfl, hS, q⟩ := h
  refine ⟨_, pss_one (ps_ret (pe_cmpR op_eq (pe_call GM hr rfl mM kM bM .nil pass0 (pa_cons (pe_op op_add (pe_call GC hr rfl mC kC bC .nil pass0 (pa_cons (pv 0) (pa_cons pe_int pa_nil))) (pe_op op_mul pe_int (pe_callB call_len_seq rfl ml PySem.boot_len (pa_cons (pv 0) pa_nil)))) (pa_cons pe_int (pa_cons pe_int pa_nil)))) pe_int (nomark _))), ?_⟩
  exact ⟨_, rfl, a, ns, 0, rfl, hS, Int.le_refl 0, _, rfl, a, _, rfl, .inl hS, _, _, rfl, rfl, .inl ⟨by decide, by decide⟩, _, _, rfl, rfl, _, _, _, rfl, by decide, by decide, rfl, q _⟩
def ordV (q : List Nat) : List V := q.map fun (i : Nat) => V.int (i : Int)
def spOrder (K : PySem.W.Frag) : Sp := fun vs H Q _ => ∃ (a : Addr) (ns : List Int) (at' many : Int), vs = [.ref a, .int at', .int many] ∧ SqL K H a (ns.map V.int) ∧ 0 ≤ at' ∧ at' ≤ 100 ∧ 0 ≤ many ∧ many ≤ 40 ∧
  ∀ (r : Addr) (H' : Hp) (q : List Nat), Same H H' → H' r = some (.lst (ordV q)) → q.Perm (List.range many.toNat) → Q (.ref r) H'
theorem compSc {X : Cx} {own : List Str} {sc : Scope} (h : (sc.kind == .function && (sc.names.lookup (".": Str) == none) && sc.names.all fun y => y.2 != .cell && (y.2 != .local || (sc.names.lookup y.1 == some .local && !(hideN own X.N).contains y.1)) && (y.2 != .free || X.env.scope.names.lookup y.1 == some .cell)) = true) : CompSc X own sc := by
  rw [Bool.and_eq_true, Bool.and_eq_true] at h
  obtain ⟨⟨h1, h0⟩, h2⟩ := h
  rw [List.all_eq_true] at h2
  have g : ∀ y ∈ sc.names, (y.2 != .cell) = true ∧ ((y.2 != .local) = true ∨ (sc.names.lookup y.1 = some .local ∧ y.1 ∉ hideN own X.N)) ∧ ((y.2 != .free) = true ∨ X.env.scope.names.lookup y.1 = some .cell) := fun y hy => by
    have z := h2 y hy
    rw [Bool.and_eq_true, Bool.and_eq_true, Bool.or_eq_true, Bool.or_eq_true, Bool.and_eq_true] at z
    obtain ⟨⟨z1, z2⟩, z3⟩ := z
    refine ⟨z1, z2.imp id fun ⟨u, v⟩ => ⟨eq_of_beq u, fun m => ?_⟩, z3.imp id fun u => eq_of_beq u⟩
    have : (hideN own X.N).contains y.1 = true := List.contains_iff_mem.mpr m
    rw [this] at v; cases v
  refine ⟨eq_of_beq h1, fun y hy e => ?_, fun y hy e => ?_, fun y hy e => ?_, fun y hy e => ?_, eq_of_beq h0⟩
  · have := (g y hy).1; rw [e] at this; cases this
  · rcases (g y hy).2.1 with z | z
    · rw [e] at z; cases z
    · exact z.1
  · rcases (g y hy).2.2 with z | z
    · rw [e] at z; cases z
    · exact z
  · rcases (g y hy).2.1 with z | z
    · rw [e] at z; cases z
    · exact z.2
theorem scOrder : FnScope ["_law_script", "_law_at", "_law_many", "_law_keys"] ["_law_script", "_law_at", "_law_many"] (defScope sOrder) := ⟨rfl, rfl, rfl, by decide +kernel, rfl, by decide +kernel, by decide +kernel⟩
theorem ndK : ((["_law_k"] : List Str) ++ (["_law_script", "_law_at", "_law_many", "_law_keys"] : List Str)).Nodup := by decide +kernel
theorem ndKey : ((["_law_key"] : List Str) ++ (["_law_script", "_law_at", "_law_many", "_law_keys"] : List Str)).Nodup := by decide +kernel
def keyAt (ns : List Int) (at' : Int) (i : Nat) : Int × Int := (HG.mixM (HG.cellM ns (at' + 2 + (0 + (i : Int))) + 29 * (0 + (i : Int)) * (0 + (i : Int))) 9931 997, (0 + (i : Int)))
theorem ok_order {k : Nat} {f fc fm : Addr} {fd dc dm : FuncData} (F : Fun K "_law_order" "_law_order" sOrder f fd)
    (GC : FnOk P w K mg base CX0 k fc dc ["_law_script", "_law_k"] (spCell K)) (bC : Binds K dc ["_law_script", "_law_k"] []) (kC : PySem.W.keepIn K (.ref fc) = true) (mC : mg "_law_cell" = some (.ref fc))
    (GM : FnOk P w K mg base CX0 k fm dm ["_law_cell_here", "_law_prime", "_law_many"] spMix) (bM : Binds K dm ["_law_cell_here", "_law_prime", "_law_many"] []) (kM : PySem.W.keepIn K (.ref fm) = true) (mM : mg "_law_mix" = some (.ref fm))
    (mr : mg "range" = none) (ms : mg "sorted" = none) : FnOk P w K mg base CX0 (k + 1) f fd ["_law_script", "_law_at", "_law_many"] (spOrder K) := by
  refine F.ok scOrder (fun vs H Q E h => ?_) (fun cdv A outer s H vs Q E hr h => ?_)
  · obtain ⟨a, ns, at', many, rfl, _⟩ := h
    rfl
  obtain ⟨a, ns, at', many, rfl, hS, h0, h1, h2, h3, q⟩ := h
  refine ⟨_, pss_cons (ps_comp (own := ["_law_k"]) (i := 3) scOrder.nd rfl (Or.inl rfl) rfl (compSc rfl) (pi_range1 rfl mr (pa_cons (pv 2) pa_nil)) (fun b => pg_name (i := 0) ndK rfl (Or.inl rfl)) (fun b => own_name (by decide)) (fun b => pf_nil)
      (fun b => pe_tup (pa_cons (pe_call GM hr rfl mM kM bM .nil pass0 (pa_cons (pe_op op_add (pe_call GC hr rfl mC kC bC .nil pass0 (pa_cons (pv 1) (pa_cons (pe_op op_add (pe_op op_add (pv 2) pe_int) (pv 0)) pa_nil))) (pe_op op_mul (pe_op op_mul pe_int (pv 0)) (pv 0))) (pa_cons pe_int (pa_cons pe_int pa_nil)))) (pa_cons (pv 0) pa_nil))))
    (pss_one (ps_ret (pe_comp (own := ["_law_key"]) rfl (compSc rfl) (pi_list (pe_callB (call_sorted_pairs hr.units) rfl ms PyProof.Rows.boot_sorted (pa_cons (pv 3) pa_nil))) (fun b => pg_name (i := 0) ndKey rfl (Or.inl rfl)) (fun b => own_name (by decide)) (fun b => pf_nil)
      (fun b => pe_ix ix_tup (pv 0) pe_int (fun _ _ => rfl))))), ?_⟩
  refine ⟨_, rfl, many, rfl, (big h2 (by omega)).1, (big h2 (by omega)).2, ?_⟩
  refine comp_range (lo := 0) (n := many.toNat) (fun i acc H' => ∃ as : List Addr, acc = as.map V.ref ∧ as.length = i ∧ IsPairs K H' as ((List.range i).map (keyAt ns at')) ∧ Same H H') ⟨[], rfl, rfl, ⟨rfl, fun i a k z => by simp at z⟩, Same.refl H⟩ (by omega)
    (fun i acc H' _ ⟨as, e, hl, _⟩ => by rw [e, List.length_map, hl]; exact Nat.le_refl _) (fun i acc H' b hi hp R hR => ?_) (fun acc H' hp p hpn => ?_)
  · obtain ⟨as, rfl, hl, hpr, hsm⟩ := hp
    refine gn_yes ?_
    refine ⟨_, rfl, _, rfl, _, _, rfl, rfl, _, rfl, _, _, rfl, rfl, a, ns, at' + 2 + (0 + (i : Int)), rfl, hsm.seq hS, by omega, _, rfl, _, _, rfl, rfl, .inl ⟨by decide, by decide⟩, _, rfl, _, _, rfl, rfl, .inr (cm (by omega) (by omega)), _, _, rfl, rfl,
      _, _, _, rfl, by decide, by decide, _, rfl, line2, fun p hp => ?_⟩
    have e2 : as.map V.ref ++ [V.ref p] = (as ++ [p]).map V.ref := by simp
    show R (as.map V.ref ++ [V.ref p]) _
    rw [e2]
    refine hR _ _ ⟨as ++ [p], rfl, by simp [hl], ?_, hsm.trans (same_new hp _)⟩
    rw [List.range_succ, List.map_append]
    exact pairs_snoc (same_pairs (same_new hp _) hpr) (.inl (.inl upd_same))
  · obtain ⟨as, rfl, hl, hpr, hsm⟩ := hp
    refine ⟨_, rfl, p, as, _, rfl, SqL.of upd_same, same_pairs (same_new hpn _) hpr, by omega, fun k hk => ?_, fun q' hq hsrt l hln => ?_⟩
    · obtain ⟨i, hi, rfl⟩ := List.mem_map.mp hk
      have := List.mem_range.mp hi
      exact ⟨by show (0 : Int) ≤ 0 + (i : Int); omega, by show (0 : Int) + (i : Int) < 1000; omega⟩
    · refine ⟨l, rfl, ⟨_, SqL.of upd_same⟩, ?_⟩
      have sm2 : Same H' (upd (upd H' p (.lst (as.map V.ref))) l (.lst (q'.map fun i => V.ref (as.getD i 0)))) := (same_new hpn _).trans (same_new hln _)
      refine comp_list (xs := q'.map fun i => V.ref (as.getD i 0)) (fun i acc H2 => H2 = upd (upd H' p (.lst (as.map V.ref))) l (.lst (q'.map fun i => V.ref (as.getD i 0))) ∧ acc = ordV (q'.take i)) ⟨rfl, rfl⟩ ?_ (fun i acc H2 _ ⟨e, ea⟩ => ⟨?_, by rw [e]; exact SqL.of upd_same⟩) (fun i x acc H2 b hx ⟨e, ea⟩ R hR => ?_) (fun acc H2 ⟨e, ea⟩ r hrn => ?_)
      · rw [List.length_map, hq.length_eq, List.length_range]; omega
      · rw [ea]; unfold ordV; rw [List.length_map, List.length_take]; omega
      · subst e
        rw [List.getElem?_map] at hx
        cases hq2 : q'[i]? with
        | none => rw [hq2] at hx; cases hx
        | some j =>
          rw [hq2] at hx
          obtain rfl : V.ref (as.getD j 0) = x := Option.some.inj hx
          have hj : j < as.length := by
            have := List.mem_range.mp (hq.mem_iff.mp (List.mem_of_getElem? hq2))
            exact this
          have hT := hpr.2 j (as.getD j 0) (keyAt ns at' j) (by rw [List.getD_eq_getElem?_getD, List.getElem?_eq_getElem hj]; rfl) (by rw [List.getElem?_map, List.getElem?_range (by omega)]; rfl)
          refine gn_yes ?_
          refine ⟨_, rfl, as.getD j 0, _, 1, _, rfl, rfl, same_tup sm2 hT, rfl, ?_⟩
          refine hR _ _ ⟨rfl, ?_⟩
          rw [ea]
          unfold ordV
          rw [List.take_add_one, hq2, List.map_append]
          show _ ++ [V.int (0 + (j : Int))] = _ ++ [V.int (j : Int)]
          rw [Int.zero_add]
      · subst e
        have e3 : q'.take (q'.map fun i => V.ref (as.getD i 0)).length = q' := by rw [List.length_map, List.take_length]
        rw [e3] at ea
        subst ea
        exact q r _ q' (hsm.trans (sm2.trans (same_new hrn _))) upd_same (by rw [hl] at hq; exact hq)
structure HgAt (K : PySem.W.Frag) (H : Hp) (t : Addr) (n : Nat) (l : Addr) (as : List Addr) (ks : List (Int × Int)) : Prop where
  tup : SqT K H t [.int (n : Int), .ref l]
  lst : SqL K H l (as.map V.ref)
  prs : IsPairs K H as ks
  ok : HG.HedgeOk n ks
theorem HgAt.same {K : PySem.W.Frag} {H H' : Hp} {t l : Addr} {n : Nat} {as : List Addr} {ks : List (Int × Int)} (h : HgAt K H t n l as ks) (e : Same H H') : HgAt K H' t n l as ks := ⟨same_tup e h.tup, e.seq h.lst, same_pairs e h.prs, h.ok⟩
def spHedge (K : PySem.W.Frag) : Sp := fun vs H Q _ => ∃ (a : Addr) (ns : List Int) (at' : Int), vs = [.ref a, .int at'] ∧ SqL K H a (ns.map V.int) ∧ ns.length ≤ 63 ∧ 0 ≤ at' ∧ at' ≤ 90 ∧
  ∀ (t l : Addr) (n : Nat) (as : List Addr) (ks : List (Int × Int)) (H' : Hp), Same H H' → HgAt K H' t n l as ks → H' t = some (.tup [.int (n : Int), .ref l]) → H' l = some (.lst (as.map V.ref)) → n ≤ 18 → Q (.ref t) H'
def NH : List Str := ["_law_script", "_law_at", "_law_most", "_law_many", "_law_order_here", "_law_manner", "_law_rods", "_law_k", "_law_other", "_law_one", "_law_two"]
theorem scHedge : FnScope NH ["_law_script", "_law_at"] (defScope sHedge) := ⟨rfl, rfl, rfl, by decide +kernel, rfl, by decide +kernel, by decide +kernel⟩
theorem ord_at {o : List Nat} {n : Nat} {x : Int} (h : o.Perm (List.range n)) (h0 : 0 ≤ x) (h1 : x < n) : atI (ordV o) x = some (.int ((o.getD x.toNat 0 : Nat) : Int)) := by
  have hl : o.length = n := by rw [h.length_eq, List.length_range]
  have hk : x.toNat < o.length := by omega
  have ek : x = ((x.toNat : Nat) : Int) := by omega
  have q : atI (ordV o) ((x.toNat : Nat) : Int) = some (.int ((o.getD x.toNat 0 : Nat) : Int)) := atI_nat (by unfold ordV; rw [List.getElem?_map, List.getElem?_eq_getElem hk, List.getD_eq_getElem?_getD, List.getElem?_eq_getElem hk]; rfl)
  rw [← ek] at q
  exact q
theorem ok_hedge {k : Nat} {f fc fm fl fo : Addr} {fd dc dm dl do' : FuncData} (F : Fun K "_law_hedge" "_law_hedge" sHedge f fd)
    (GC : FnOk P w K mg base CX0 k fc dc ["_law_script", "_law_k"] (spCell K)) (bC : Binds K dc ["_law_script", "_law_k"] []) (kC : PySem.W.keepIn K (.ref fc) = true) (mC : mg "_law_cell" = some (.ref fc))
    (GM : FnOk P w K mg base CX0 k fm dm ["_law_cell_here", "_law_prime", "_law_many"] spMix) (bM : Binds K dm ["_law_cell_here", "_law_prime", "_law_many"] []) (kM : PySem.W.keepIn K (.ref fm) = true) (mM : mg "_law_mix" = some (.ref fm))
    (GL : FnOk P w K mg base CX0 k fl dl ["_law_script"] (spLarge K)) (bL : Binds K dl ["_law_script"] []) (kL : PySem.W.keepIn K (.ref fl) = true) (mL : mg "_law_large" = some (.ref fl))
    (GO : FnOk P w K mg base CX0 k fo do' ["_law_script", "_law_at", "_law_many"] (spOrder K)) (bO : Binds K do' ["_law_script", "_law_at", "_law_many"] []) (kO : PySem.W.keepIn K (.ref fo) = true) (mO : mg "_law_order" = some (.ref fo))
    (ml : mg "len" = none) (mr : mg "range" = none) (ms : mg "sorted" = none) (mx : mg "max" = none) (mn : mg "min" = none) : FnOk P w K mg base CX0 (k + 1) f fd ["_law_script", "_law_at"] (spHedge K) := by
  refine F.ok scHedge (fun vs H Q E h => ?_) (fun cdv A outer s H vs Q E hr h => ?_)
  · obtain ⟨a, ns, at', rfl, _⟩ := h
    rfl
  obtain ⟨a, ns, at', rfl, hS, h63, h0, h1, q⟩ := h
  refine ⟨_, pss_cons (ps_set (i := 2) scHedge.nd rfl (Or.inl rfl) pe_int)
    <| pss_cons (ps_mid (ps_if (pt_val (pe_call GL hr rfl mL kL bL .nil pass0 (pa_cons (pv 0) pa_nil))) (pss_one (ps_set (i := 2) scHedge.nd rfl (Or.inl rfl) pe_int)) pss_nil))
    <| pss_cons (ps_if (pt_cmpR op_gt (pe_callB call_len_seq rfl ml PySem.boot_len (pa_cons (pv 0) pa_nil)) pe_int (nomark _)) (pss_one (ps_set (i := 2) scHedge.nd rfl (Or.inl rfl) pe_int)) pss_nil)
    <| pss_cons (ps_set (i := 3) scHedge.nd rfl (Or.inl rfl) (pe_op op_add pe_int (pe_op op_mod (pe_call GC hr rfl mC kC bC .nil pass0 (pa_cons (pv 0) (pa_cons (pv 1) pa_nil))) (pv 2))))
    <| pss_cons (ps_set (i := 4) scHedge.nd rfl (Or.inl rfl) (pe_call GO hr rfl mO kO bO .nil pass0 (pa_cons (pv 0) (pa_cons (pv 1) (pa_cons (pv 3) pa_nil)))))
    <| pss_cons (ps_set (i := 5) scHedge.nd rfl (Or.inl rfl) (pe_op op_mod (pe_call GC hr rfl mC kC bC .nil pass0 (pa_cons (pv 0) (pa_cons (pe_op op_add (pv 1) pe_int) pa_nil))) pe_int))
    <| pss_cons (ps_set (i := 6) scHedge.nd rfl (Or.inl rfl) (pe_lst pa_nil))
    <| pss_cons (ps_for PassesOwn.never rfl (pi_range2 rfl mr (pa_cons pe_int (pa_cons (pv 3) pa_nil))) (pg_name (i := 7) scHedge.nd rfl (Or.inl rfl))
      (pss_cons (ps_set (i := 8) scHedge.nd rfl (Or.inl rfl) (pe_call GM hr rfl mM kM bM .nil pass0 (pa_cons (pe_op op_add (pe_call GC hr rfl mC kC bC .nil pass0 (pa_cons (pv 0) (pa_cons (pe_op op_add (pe_op op_add (pv 1) pe_int) (pv 7)) pa_nil))) (pe_op op_mul (pe_op op_mul pe_int (pv 7)) (pv 7))) (pa_cons pe_int (pa_cons (pv 7) pa_nil)))))
      <| pss_cons (ps_mid (ps_if (pt_cmpR op_eq (pv 5) pe_int (nomark _)) (pss_one (ps_set (i := 8) scHedge.nd rfl (Or.inl rfl) (pe_op op_sub (pv 7) pe_int))) pss_nil))
      <| pss_cons (ps_mid (ps_if (pt_cmpR op_eq (pv 5) pe_int (nomark _)) (pss_one (ps_set (i := 8) scHedge.nd rfl (Or.inl rfl) pe_int)) pss_nil))
      <| pss_cons (ps_mid (ps_if (pt_cmpR op_eq (pv 5) pe_int (nomark _)) (pss_one (ps_set (i := 8) scHedge.nd rfl (Or.inl rfl) (pe_callB (call_max2 rfl) rfl mx PyProof.Rows.boot_max (pa_cons pe_int (pa_cons
          (pe_op op_sub (pe_op op_sub (pv 7) pe_int) (pe_call GM hr rfl mM kM bM .nil pass0 (pa_cons (pe_call GC hr rfl mC kC bC .nil pass0 (pa_cons (pv 0) (pa_cons (pe_op op_add (pe_op op_add (pv 1) pe_int) (pv 7)) pa_nil))) (pa_cons pe_int (pa_cons pe_int pa_nil))))) pa_nil))))) pss_nil))
      <| pss_cons (ps_set (i := 9) scHedge.nd rfl (Or.inl rfl) (pe_ix ix_list (pv 4) (pv 7) (fun _ _ => rfl)))
      <| pss_cons (ps_set (i := 10) scHedge.nd rfl (Or.inl rfl) (pe_ix ix_list (pv 4) (pv 8) (fun _ _ => rfl)))
      <| pss_one (ps_expr (pe_bm PySem.F.plainAttrs_list PySem.F.slot_list_append PySem.F.type_list_append mt_append (pv 6) (pa_cons (pe_tup (pa_cons (pe_callB (call_min2 rfl) rfl mn PyProof.Rows.boot_min (pa_cons (pv 9) (pa_cons (pv 10) pa_nil)))
          (pa_cons (pe_callB (call_max2 rfl) rfl mx PyProof.Rows.boot_max (pa_cons (pv 9) (pa_cons (pv 10) pa_nil))) pa_nil))) pa_nil)))))
    <| pss_one (ps_ret (pe_tup (pa_cons (pv 3) (pa_cons (pe_callB (call_sorted_pairs hr.units) rfl ms PyProof.Rows.boot_sorted (pa_cons (pv 6) pa_nil)) pa_nil)))), ?_⟩
  -- most: 9 or 18
  refine ⟨fun σ' H' => H = H' ∧ ∃ most : Int, 1 ≤ most ∧ most ≤ 18 ∧ σ' = [some (.ref a), some (.int at'), some (.int most), none, none, none, none, none, none, none, none],
    ⟨_, rfl, a, ns, rfl, hS, fun large => ⟨large, rfl, ite2 (fun _ => ⟨rfl, 18, by decide, by decide, rfl⟩) (fun _ => ⟨rfl, 9, by decide, by decide, rfl⟩)⟩⟩, fun σ' H' hP => ?_⟩
  obtain ⟨rfl, most, hm1, hm2, rfl⟩ := hP
  refine ⟨_, rfl, a, _, rfl, .inl hS, _, _, rfl, rfl, _, rfl, ite2 (fun c => ?_) (fun _ => ?_)⟩
  · have c' : (63 : Int) < (((ns.map V.int).length : Nat) : Int) := of_decide_eq_true c
    rw [List.length_map] at c'
    omega
  refine ⟨_, rfl, _, rfl, a, ns, at', rfl, hS, h0, _, rfl, _, _, rfl, rfl, by omega, _, _, rfl, rfl, ?_⟩
  have em1 := Int.emod_nonneg (HG.cellM ns at') (show most ≠ 0 by omega)
  have em2 := Int.emod_lt_of_pos (HG.cellM ns at') (show 0 < most by omega)
  obtain ⟨n, en⟩ : ∃ n : Nat, 1 + HG.cellM ns at' % most = (n : Int) := ⟨(1 + HG.cellM ns at' % most).toNat, by omega⟩
  have n1 : 1 ≤ n := by omega
  have n2 : n ≤ 18 := by omega
  show tSeq _ _ _ [some (V.ref a), some (.int at'), some (.int most), some (.int (1 + HG.cellM ns at' % most)), none, none, none, none, none, none, none] _
  rw [en]
  refine ⟨_, rfl, _, rfl, _, rfl, a, ns, at', n, rfl, hS, h0, by omega, by omega, by omega, fun r H1 o sm1 hr1 hp1 => ?_⟩
  rw [Int.toNat_natCast] at hp1
  refine ⟨_, rfl, _, rfl, _, _, rfl, rfl, a, ns, at' + 1, rfl, sm1.seq hS, by omega, _, _, rfl, rfl, (by show (0 : Int) < 5; decide), ?_⟩
  refine ⟨line0, fun p hpn => ?_⟩
  refine ⟨_, rfl, 1, n, rfl, ⟨(big (j := 1) (by decide) (by decide)).1, (big (j := 1) (by decide) (by decide)).2, (big (j := n) (by omega) (by omega)).1, (big (j := n) (by omega) (by omega)).2⟩, ?_⟩
  refine for_range (fun i σ H' => ∃ s7 s8 s9 s10 as us, σ = [some (.ref a), some (.int at'), some (.int most), some (.int n), some (.ref r), some (.int (HG.cellM ns (at' + 1) % 5)), some (.ref p), s7, s8, s9, s10] ∧ H' p = some (.lst (as.map V.ref)) ∧ as.length = i ∧ IsPairs K H' as us ∧ HG.Grown o us ∧ Same H1 H')
    ⟨none, none, none, none, [], [], rfl, upd_same, rfl, ⟨rfl, fun i a k z => by simp at z⟩, fun j k z => by simp at z, same_new hpn _⟩ (fun i σ H' hi hP => ?_) (fun σ H' hP => ?_)
  · obtain ⟨s7, s8, s9, s10, as, us, rfl, hp, hl, hpr, hgr, sm⟩ := hP
    have hi' : (i : Int) + 1 < n := by omega
    refine ⟨_, rfl, _, rfl, _, _, rfl, rfl, _, rfl, _, _, rfl, rfl, a, ns, at' + 1 + (1 + (i : Int)), rfl, sm.seq (sm1.seq hS), by omega, _, rfl, _, _, rfl, rfl, .inl ⟨by decide, by decide⟩, _, rfl, _, _, rfl, rfl, .inr (cm (by omega) (by omega)), _, _, rfl, rfl,
      _, rfl, _, _, _, rfl, by decide, by omega, ?_⟩
    obtain ⟨b1, b2⟩ := HG.mixM_lt (c := HG.cellM ns (at' + 1 + (1 + (i : Int))) + 3 * (1 + (i : Int)) * (1 + (i : Int))) (p := 9973) (m := 1 + (i : Int)) (by omega)
    refine ⟨fun σ' H2 => H' = H2 ∧ ∃ x : Int, 0 ≤ x ∧ x < 1 + (i : Int) ∧ σ' = [some (.ref a), some (.int at'), some (.int most), some (.int n), some (.ref r), some (.int (HG.cellM ns (at' + 1) % 5)), some (.ref p), some (.int (1 + (i : Int))), some (.int x), s9, s10],
      ⟨_, rfl, rfl, _, rfl, ite2 (fun _ => ⟨_, rfl, _, _, rfl, rfl, ⟨rfl, 1 + (i : Int) - 1, by omega, by omega, rfl⟩⟩) (fun _ => ⟨rfl, _, b1, b2, rfl⟩)⟩, fun σ' H2 hP => ?_⟩
    clear b1 b2
    obtain ⟨rfl, x, x1, x2, rfl⟩ := hP
    refine ⟨fun σ' H2 => H' = H2 ∧ ∃ x : Int, 0 ≤ x ∧ x < 1 + (i : Int) ∧ σ' = [some (.ref a), some (.int at'), some (.int most), some (.int n), some (.ref r), some (.int (HG.cellM ns (at' + 1) % 5)), some (.ref p), some (.int (1 + (i : Int))), some (.int x), s9, s10],
      ⟨_, rfl, rfl, _, rfl, ite2 (fun _ => ⟨rfl, 0, by omega, by omega, rfl⟩) (fun _ => ⟨rfl, _, x1, x2, rfl⟩)⟩, fun σ' H2 hP => ?_⟩
    clear x1 x2
    obtain ⟨rfl, x, x1, x2, rfl⟩ := hP
    obtain ⟨b1, b2⟩ := HG.mixM_lt (c := HG.cellM ns (at' + 1 + (1 + (i : Int)))) (p := 9967) (m := 3) (by decide)
    refine ⟨fun σ' H2 => H' = H2 ∧ ∃ x : Int, 0 ≤ x ∧ x < 1 + (i : Int) ∧ σ' = [some (.ref a), some (.int at'), some (.int most), some (.int n), some (.ref r), some (.int (HG.cellM ns (at' + 1) % 5)), some (.ref p), some (.int (1 + (i : Int))), some (.int x), s9, s10],
      ⟨_, rfl, rfl, _, rfl, ite2 (fun _ => ⟨_, rfl, _, _, rfl, rfl, _, rfl, _, rfl, _, _, rfl, rfl, _, rfl, _, _, rfl, rfl, a, ns, at' + 1 + (1 + (i : Int)), rfl, sm.seq (sm1.seq hS), by omega, _, _, _, rfl, by decide, by decide, _, _, rfl, rfl, _, _, rfl,
        ⟨rfl, _, by split <;> omega, by split <;> omega, rfl⟩⟩) (fun _ => ⟨rfl, _, x1, x2, rfl⟩)⟩, fun σ' H2 hP => ?_⟩
    clear x1 x2 b1 b2
    obtain ⟨rfl, x, x1, x2, rfl⟩ := hP
    refine ⟨_, rfl, _, rfl, r, _, _, _, rfl, rfl, SqL.of (sm _ _ hr1), ord_at hp1 (by omega) (by omega), ?_⟩
    refine ⟨_, rfl, _, rfl, r, _, _, _, rfl, rfl, SqL.of (sm _ _ hr1), ord_at hp1 x1 (by omega), ?_⟩
    refine ⟨_, rfl, .inl ⟨rfl, _, SqL.of hp⟩, _, rfl, _, rfl, _, _, rfl, _, rfl, _, rfl, _, _, rfl, line2, fun t ht => ?_⟩
    have ne : p ≠ t := ne_of_none hp ht
    refine ⟨p, as.map V.ref, _, rfl, rfl, by rw [upd_ne ne]; exact hp, small1000 (by rw [List.length_map]; omega), ?_⟩
    refine ⟨_, _, _, _, as ++ [t], us ++ [HG.rodM (o.getD (1 + (i : Int)).toNat 0 : Nat) (o.getD x.toNat 0 : Nat)], rfl, by rw [upd_same]; simp, by simp [hl], ?_, ?_, ?_⟩
    · have sm3 : Same H' (upd H' t (.tup [.int (HG.rodM (o.getD (1 + (i : Int)).toNat 0 : Nat) (o.getD x.toNat 0 : Nat)).1, .int (HG.rodM (o.getD (1 + (i : Int)).toNat 0 : Nat) (o.getD x.toNat 0 : Nat)).2])) := same_new ht _
      have z := pairs_snoc (same_pairs sm3 hpr) (a := t) (k := HG.rodM (o.getD (1 + (i : Int)).toNat 0 : Nat) (o.getD x.toNat 0 : Nat)) (.inl (.inl upd_same))
      refine ⟨z.1, fun j b c e1 e2 => ?_⟩
      have q1 := z.2 j b c e1 e2
      rcases q1 with (q1 | ⟨ob, q1⟩) | q1
      · refine .inl (.inl ?_)
        by_cases eb : b = p
        · subst eb; rw [upd_ne ne, hp] at q1; cases q1
        · rw [upd_ne eb]; exact q1
      · refine .inl (.inr ⟨ob, ?_⟩)
        by_cases eb : b = p
        · subst eb; rw [upd_ne ne, hp] at q1; cases q1
        · rw [upd_ne eb]; exact q1
      · exact .inr q1
    · intro j k z
      by_cases hj : j < us.length
      · rw [List.getElem?_append_left hj] at z
        exact hgr j k z
      · rw [List.getElem?_append_right (by omega)] at z
        have ul : us.length = i := by rw [← hpr.1]; exact hl
        have ej : j - us.length = 0 := by
          cases q2 : j - us.length with
          | zero => rfl
          | succ m => rw [q2] at z; simp at z
        rw [ej] at z
        have z' : HG.rodM (o.getD (1 + (i : Int)).toNat 0 : Nat) (o.getD x.toNat 0 : Nat) = k := Option.some.inj z
        refine ⟨x.toNat, by omega, ?_⟩
        have e1 : (1 + (i : Int)).toNat = j + 1 := by omega
        rw [← z', e1]
    · intro b u hb
      have hb2 := sm b u hb
      have nb : b ≠ p := fun e => by
        rw [e] at hb
        have := ne_of_none hb hpn
        exact this rfl
      rw [upd_ne nb, upd_ne (ne_of_none hb2 ht)]
      exact hb2
  · obtain ⟨s7, s8, s9, s10, as, us, rfl, hp, hl, hpr, hgr, sm⟩ := hP
    have hl' : as.length = n - 1 := by omega
    have ul : us.length = n - 1 := by rw [← hpr.1]; exact hl'
    have bnd : ∀ k ∈ us, 0 ≤ k.1 ∧ 0 ≤ k.2 ∧ k.2 < 1000 := fun k hk => by
      obtain ⟨j, hj, rfl⟩ := List.mem_iff_getElem.mp hk
      obtain ⟨y, hy, e⟩ := hgr j _ (List.getElem?_eq_getElem hj)
      have lo : o.length = n := by rw [hp1.length_eq, List.length_range]
      have m1 : o.getD (j + 1) 0 < n := List.mem_range.mp (hp1.mem_iff.mp (HG.getD_mem (by omega)))
      have m2 : o.getD y 0 < n := List.mem_range.mp (hp1.mem_iff.mp (HG.getD_mem (by omega)))
      rw [e]
      unfold HG.rodM
      generalize o.getD (j + 1) 0 = u at *
      generalize o.getD y 0 = v at *
      dsimp only
      refine ⟨?_, ?_, ?_⟩ <;> split <;> omega
    refine ⟨_, rfl, _, rfl, p, as, us, rfl, SqL.of hp, hpr, by omega, fun k hk => (bnd k hk).2, fun q' hq hsrt l hln => ?_⟩
    refine ⟨line2, fun t htn => ?_⟩
    have sm2 : Same H' (upd (upd H' l (.lst (q'.map fun i => V.ref (as.getD i 0)))) t (.tup [.int (n : Int), .ref l])) := (same_new hln _).trans (same_new htn _)
    have hlt : l ≠ t := ne_of_none upd_same htn
    have ql : q'.length = n - 1 := by rw [hq.length_eq, List.length_range]; exact hl'
    have qlt : ∀ i ∈ q', i < n - 1 := fun i hi => by
      have := List.mem_range.mp (hq.mem_iff.mp hi)
      omega
    have getq : (List.range us.length).map (fun i => us.getD i ((0 : Int), (0 : Int))) = us := by
      apply List.ext_getElem
      · simp
      · intro i h1 h2
        simp at h1 ⊢
        simp [h1]
    have el : (q'.map fun i => V.ref (as.getD i 0)) = (q'.map fun i => as.getD i 0).map V.ref := by rw [List.map_map]; rfl
    have okH : HG.HedgeOk n (q'.map fun i => us.getD i (0, 0)) := by
      refine ⟨n1, by omega, by rw [List.length_map]; exact ql, ⟨o, us, hp1, ul, hgr, ?_⟩, by rw [List.map_map]; exact hsrt⟩
      have z := hq.map (fun i => us.getD i ((0 : Int), (0 : Int)))
      have e : as.length = us.length := hpr.1
      rw [e, getq] at z
      exact z
    have hpr2 : IsPairs K (upd (upd H' l (.lst (q'.map fun i => V.ref (as.getD i 0)))) t (.tup [.int (n : Int), .ref l])) (q'.map fun i => as.getD i 0) (q'.map fun i => us.getD i (0, 0)) := by
      refine ⟨by rw [List.length_map, List.length_map], fun i b c e1 e2 => ?_⟩
      rw [List.getElem?_map] at e1 e2
      cases e3 : q'[i]? with
      | none => rw [e3] at e1; cases e1
      | some j =>
        rw [e3] at e1 e2
        have e1' := Option.some.inj e1
        have e2' := Option.some.inj e2
        subst e1' e2'
        have hj := qlt j (List.mem_of_getElem? e3)
        refine same_tup sm2 (hpr.2 j _ _ ?_ ?_)
        · show as[j]? = some (as.getD j 0)
          rw [List.getD_eq_getElem?_getD, List.getElem?_eq_getElem (by omega)]; rfl
        · show us[j]? = some (us.getD j (0, 0))
          rw [List.getD_eq_getElem?_getD, List.getElem?_eq_getElem (by omega)]; rfl
    refine q t l n _ _ _ (sm1.trans (sm.trans sm2)) ⟨SqT.of upd_same, ?_, hpr2, okH⟩ upd_same ?_ n2
    · rw [← el]; exact SqL.of (by rw [upd_ne hlt]; exact upd_same)
    · rw [upd_ne hlt, ← el]; exact upd_same
end
end Hd
namespace Hd
open PySem L2
abbrev sIsN : Stmt := top 6
abbrev sIsF : Stmt := top 7
abbrev sIsR : Stmt := top 8
abbrev sMerged : Stmt := top 9
section
variable {P : Program} {w : World} {K : PySem.W.Frag} {mg : Str → Option Value} {base : Heap}
def spIsN (K : PySem.W.Frag) : Sp := fun vs H Q _ => ∃ x k, vs = [x] ∧ Kd K H x k ∧ Q (.bl (k == Kn.int)) H
theorem scIsN : FnScope ["thing"] ["thing"] (defScope sIsN) := ⟨rfl, rfl, rfl, by decide +kernel, rfl, by decide +kernel, by decide +kernel⟩
theorem ok_isN {k : Nat} {f : Addr} {fd : FuncData} (F : Fun K "is_number" "is_number" sIsN f fd) (mi : mg "isinstance" = none) (mint : mg "int" = none) (mbl : mg "bool" = none) : FnOk P w K mg base CX0 (k + 1) f fd ["thing"] (spIsN K) := by
  refine F.ok scIsN (fun vs H Q E h => ?_) (fun cdv A outer s H vs Q E hr h => ?_)
  · obtain ⟨x, k, rfl, _⟩ := h
    rfl
  obtain ⟨x, kd, rfl, hk, q⟩ := h
  refine ⟨_, pss_one (ps_ret (pe_and (pe_callB call_isK rfl mi PyProof.Rows.boot_isinstance (pa_cons (pv 0) (pa_cons (pe_bltn (v := .ty "int") rfl mint PyProof.Rows.boot_int rfl) pa_nil)))
    (pe_one (pe_not (pe_callB call_isK rfl mi PyProof.Rows.boot_isinstance (pa_cons (pv 0) (pa_cons (pe_bltn (v := .ty "bool") rfl mbl PyProof.Rows.boot_bool rfl) pa_nil))))))), ?_⟩
  refine ⟨_, rfl, x, .int, kd, rfl, hk, _, rfl, ?_⟩
  cases kd with
  | non => exact iteF q
  | bl => exact iteT ⟨_, rfl, x, .bl, .bl, rfl, hk, _, rfl, q⟩
  | int => exact iteT ⟨_, rfl, x, .bl, .int, rfl, hk, _, rfl, q⟩
  | str => exact iteF q
  | lst => exact iteF q
  | tup => exact iteF q
inductive FormV (K : PySem.W.Frag) (H : Hp) : V → Bool → Prop where
  | kind {x : V} {k : Kn} (h : Kd K H x k) (ne : k ≠ .tup) : FormV K H x false
  | size {a : Addr} {xs : List V} (h : SqT K H a xs) (ne : xs.length ≠ 2) : FormV K H (.ref a) false
  | many {a : Addr} {m r : V} {k : Kn} (h : SqT K H a [m, r]) (hm : Kd K H m k) (ne : k ≠ .int) : FormV K H (.ref a) false
  | range {a : Addr} {n : Int} {r : V} (h : SqT K H a [.int n, r]) (ne : n < 1 ∨ 40 < n) : FormV K H (.ref a) false
  | rods {a : Addr} {n : Int} {r : V} {k : Kn} (h : SqT K H a [.int n, r]) (h1 : 1 ≤ n) (h2 : n ≤ 40) (hr : Kd K H r k) (ne : k ≠ .lst) : FormV K H (.ref a) false
  | list {a l : Addr} {n : Int} {ys : List V} (h : SqT K H a [.int n, .ref l]) (h1 : 1 ≤ n) (h2 : n ≤ 40) (hl : SqL K H l ys) : FormV K H (.ref a) (decide (((ys.length : Nat) : Int) = n - 1))
def spIsF (K : PySem.W.Frag) : Sp := fun vs H Q _ => ∃ x b, vs = [x] ∧ FormV K H x b ∧ Q (.bl b) H
theorem scIsF : FnScope ["thing", "many"] ["thing"] (defScope sIsF) := ⟨rfl, rfl, rfl, by decide +kernel, rfl, by decide +kernel, by decide +kernel⟩
theorem beqF {k t : Kn} (h : k ≠ t) : (k == t) = false := by
  cases e : k == t with
  | false => rfl
  | true => exact absurd (eq_of_beq e) h
theorem ok_isF {k : Nat} {f fn : Addr} {fd dn : FuncData} (F : Fun K "is_hedge_form" "is_hedge_form" sIsF f fd) (GN : FnOk P w K mg base CX0 k fn dn ["thing"] (spIsN K)) (bN : Binds K dn ["thing"] []) (kN : PySem.W.keepIn K (.ref fn) = true) (mN : mg "is_number" = some (.ref fn))
    (mi : mg "isinstance" = none) (mt : mg "tuple" = none) (mls : mg "list" = none) (ml : mg "len" = none) {tk : Tok} (mM : mg "MOST_KNOTS" = some (.int 40 tk)) : FnOk P w K mg base CX0 (k + 1) f fd ["thing"] (spIsF K) := by
  refine F.ok scIsF (fun vs H Q E h => ?_) (fun cdv A outer s H vs Q E hr h => ?_)
  · obtain ⟨x, b, rfl, _⟩ := h
    rfl
  obtain ⟨x, b, rfl, hf, q⟩ := h
  refine ⟨_, pss_cons (ps_if (PW.pt (pw_or (pt_not (pt_val (pe_callB call_isK rfl mi PyProof.Rows.boot_isinstance (pa_cons (pv 0) (pa_cons (pe_bltn (v := .ty "tuple") rfl mt PyProof.Rows.boot_tuple rfl) pa_nil)))))
        (pw_or1 (pt_cmpR op_ne (pe_callB call_len_seq rfl ml PySem.boot_len (pa_cons (pv 0) pa_nil)) pe_int (nomark _))))) (pss_one (ps_ret pe_bl)) pss_nil)
    <| pss_cons (ps_set (i := 1) scIsF.nd rfl (Or.inl rfl) (pe_ix ix_tup (pv 0) pe_int (fun _ _ => rfl)))
    <| pss_cons (ps_if (PW.pt (pw_or (pt_not (pt_val (pe_call GN hr rfl mN kN bN .nil pass0 (pa_cons (pv 1) pa_nil))))
        (pw_or (pt_cmpR op_lt (pv 1) pe_int (nomark _)) (pw_or1 (pt_cmpR op_gt (pv 1) (pe_glob (v := .int 40) rfl mM ⟨_, rfl⟩) (nomark _)))))) (pss_one (ps_ret pe_bl)) pss_nil)
    <| pss_one (ps_ret (pe_and (pe_callB call_isK rfl mi PyProof.Rows.boot_isinstance (pa_cons (pe_ix ix_tup (pv 0) pe_int (fun _ _ => rfl)) (pa_cons (pe_bltn (v := .ty "list") rfl mls PyProof.Rows.boot_list rfl) pa_nil)))
      (pe_one (pe_cmpR op_eq (pe_callB call_len_seq rfl ml PySem.boot_len (pa_cons (pe_ix ix_tup (pv 0) pe_int (fun _ _ => rfl)) pa_nil)) (pe_op op_sub (pv 1) pe_int) (nomark _))))), ?_⟩
  cases hf with
  | @kind _ kd hk ne =>
    refine ⟨_, rfl, x, .tup, kd, rfl, hk, _, rfl, ?_⟩
    cases kd with
    | tup => exact absurd rfl ne
    | non => exact iteT (iteT q)
    | bl => exact iteT (iteT q)
    | int => exact iteT (iteT q)
    | str => exact iteT (iteT q)
    | lst => exact iteT (iteT q)
  | @size a xs h ne =>
    refine ⟨_, rfl, _, .tup, .tup, rfl, .tup h, _, rfl, iteF ?_⟩
    refine ⟨_, rfl, a, xs, rfl, .inr h, rfl, _, rfl, ?_⟩
    have e : (!decide (V.int ((xs.length : Nat) : Int) = V.int 2)) = true := by
      have : ¬ V.int ((xs.length : Nat) : Int) = V.int 2 := fun z => ne (by injection z with z; omega)
      rw [decide_eq_false this]; rfl
    rw [e]
    exact iteT q
  | @many a m r kd h hm ne =>
    refine ⟨_, rfl, _, .tup, .tup, rfl, .tup h, _, rfl, iteF ?_⟩
    refine ⟨_, rfl, a, _, rfl, .inr h, rfl, _, rfl, iteF ?_⟩
    refine ⟨_, rfl, a, _, 0, m, rfl, rfl, h, rfl, ?_⟩
    refine ⟨_, rfl, m, kd, rfl, hm, _, rfl, ?_⟩
    rw [beqF ne]
    exact iteT (iteT q)
  | @range a n r h ne =>
    refine ⟨_, rfl, _, .tup, .tup, rfl, .tup h, _, rfl, iteF ?_⟩
    refine ⟨_, rfl, a, _, rfl, .inr h, rfl, _, rfl, iteF ?_⟩
    refine ⟨_, rfl, a, _, 0, _, rfl, rfl, h, rfl, ?_⟩
    refine ⟨_, rfl, _, .int, rfl, .int n, _, rfl, iteF ?_⟩
    refine ⟨_, rfl, _, _, rfl, rfl, _, rfl, ?_⟩
    by_cases h1 : n < 1
    · rw [decide_eq_true h1]; exact iteT (iteT q)
    · rw [decide_eq_false h1]
      refine iteF ⟨_, rfl, _, _, rfl, rfl, _, rfl, ?_⟩
      have h2 : (40 : Int) < n := by omega
      rw [decide_eq_true h2]; exact iteT q
  | @rods a n r kd h h1 h2 hr' ne =>
    refine ⟨_, rfl, _, .tup, .tup, rfl, .tup h, _, rfl, iteF ?_⟩
    refine ⟨_, rfl, a, _, rfl, .inr h, rfl, _, rfl, iteF ?_⟩
    refine ⟨_, rfl, a, _, 0, _, rfl, rfl, h, rfl, ?_⟩
    refine ⟨_, rfl, _, .int, rfl, .int n, _, rfl, iteF ?_⟩
    refine ⟨_, rfl, _, _, rfl, rfl, _, rfl, ?_⟩
    rw [decide_eq_false (show ¬ n < 1 by omega)]
    refine iteF ⟨_, rfl, _, _, rfl, rfl, _, rfl, ?_⟩
    rw [decide_eq_false (show ¬ (40 : Int) < n by omega)]
    refine iteF ?_
    refine ⟨_, rfl, a, _, 1, r, rfl, rfl, h, rfl, r, .lst, kd, rfl, hr', _, rfl, ?_⟩
    cases kd with
    | lst => exact absurd rfl ne
    | non => exact iteF q
    | bl => exact iteF q
    | int => exact iteF q
    | str => exact iteF q
    | tup => exact iteF q
  | @list a l n ys h h1 h2 hl =>
    refine ⟨_, rfl, _, .tup, .tup, rfl, .tup h, _, rfl, iteF ?_⟩
    refine ⟨_, rfl, a, _, rfl, .inr h, rfl, _, rfl, iteF ?_⟩
    refine ⟨_, rfl, a, _, 0, _, rfl, rfl, h, rfl, ?_⟩
    refine ⟨_, rfl, _, .int, rfl, .int n, _, rfl, iteF ?_⟩
    refine ⟨_, rfl, _, _, rfl, rfl, _, rfl, ?_⟩
    rw [decide_eq_false (show ¬ n < 1 by omega)]
    refine iteF ⟨_, rfl, _, _, rfl, rfl, _, rfl, ?_⟩
    rw [decide_eq_false (show ¬ (40 : Int) < n by omega)]
    refine iteF ?_
    refine ⟨_, rfl, a, _, 1, _, rfl, rfl, h, rfl, _, .lst, .lst, rfl, .lst hl, _, rfl, iteT ?_⟩
    refine ⟨_, rfl, a, _, 1, _, rfl, rfl, h, rfl, l, ys, rfl, .inl hl, _, rfl, _, _, rfl, rfl, rfl, ?_⟩
    rw [dec_int, ← Bool.beq_eq_decide_eq] at *
    exact q
inductive RodV (K : PySem.W.Frag) (H : Hp) (n : Int) : V → Bool → Prop where
  | kind {x : V} {k : Kn} (h : Kd K H x k) (ne : k ≠ .tup) : RodV K H n x false
  | size {a : Addr} {xs : List V} (h : SqT K H a xs) (ne : xs.length ≠ 2) : RodV K H n (.ref a) false
  | one {a : Addr} {u v : V} {k : Kn} (h : SqT K H a [u, v]) (hu : Kd K H u k) (ne : k ≠ .int) : RodV K H n (.ref a) false
  | two {a : Addr} {i : Int} {v : V} {k : Kn} (h : SqT K H a [.int i, v]) (hv : Kd K H v k) (ne : k ≠ .int) : RodV K H n (.ref a) false
  | nums {a : Addr} {i j : Int} (h : SqT K H a [.int i, .int j]) : RodV K H n (.ref a) (decide (0 ≤ i ∧ i < j ∧ j < n))
def spIsR (K : PySem.W.Frag) : Sp := fun vs H Q _ => ∃ x n b, vs = [x, .int n] ∧ RodV K H n x b ∧ Q (.bl b) H
theorem scIsR : FnScope ["thing", "many"] ["thing", "many"] (defScope sIsR) := ⟨rfl, rfl, rfl, by decide +kernel, rfl, by decide +kernel, by decide +kernel⟩
theorem ok_isR {k : Nat} {f fn : Addr} {fd dn : FuncData} (F : Fun K "is_rod" "is_rod" sIsR f fd) (GN : FnOk P w K mg base CX0 k fn dn ["thing"] (spIsN K)) (bN : Binds K dn ["thing"] []) (kN : PySem.W.keepIn K (.ref fn) = true) (mN : mg "is_number" = some (.ref fn))
    (mi : mg "isinstance" = none) (mt : mg "tuple" = none) (ml : mg "len" = none) : FnOk P w K mg base CX0 (k + 1) f fd ["thing", "many"] (spIsR K) := by
  refine F.ok scIsR (fun vs H Q E h => ?_) (fun cdv A outer s H vs Q E hr h => ?_)
  · obtain ⟨x, n, b, rfl, _⟩ := h
    rfl
  obtain ⟨x, n, b, rfl, hf, q⟩ := h
  refine ⟨_, pss_cons (ps_if (PW.pt (pw_or (pt_not (pt_val (pe_callB call_isK rfl mi PyProof.Rows.boot_isinstance (pa_cons (pv 0) (pa_cons (pe_bltn (v := .ty "tuple") rfl mt PyProof.Rows.boot_tuple rfl) pa_nil)))))
        (pw_or1 (pt_cmpR op_ne (pe_callB call_len_seq rfl ml PySem.boot_len (pa_cons (pv 0) pa_nil)) pe_int (nomark _))))) (pss_one (ps_ret pe_bl)) pss_nil)
    <| pss_cons (ps_if (PW.pt (pw_or (pt_not (pt_val (pe_call GN hr rfl mN kN bN .nil pass0 (pa_cons (pe_ix ix_tup (pv 0) pe_int (fun _ _ => rfl)) pa_nil))))
        (pw_or1 (pt_not (pt_val (pe_call GN hr rfl mN kN bN .nil pass0 (pa_cons (pe_ix ix_tup (pv 0) pe_int (fun _ _ => rfl)) pa_nil))))))) (pss_one (ps_ret pe_bl)) pss_nil)
    <| pss_one (ps_ret (pe_chain3 op_le op_lt op_lt pe_int (pe_ix ix_tup (pv 0) pe_int (fun _ _ => rfl)) (pe_ix ix_tup (pv 0) pe_int (fun _ _ => rfl)) (pv 1))), ?_⟩
  cases hf with
  | @kind _ kd hk ne =>
    refine ⟨_, rfl, x, .tup, kd, rfl, hk, _, rfl, ?_⟩
    cases kd with
    | tup => exact absurd rfl ne
    | non => exact iteT (iteT q)
    | bl => exact iteT (iteT q)
    | int => exact iteT (iteT q)
    | str => exact iteT (iteT q)
    | lst => exact iteT (iteT q)
  | @size a xs h ne =>
    refine ⟨_, rfl, _, .tup, .tup, rfl, .tup h, _, rfl, iteF ?_⟩
    refine ⟨_, rfl, a, xs, rfl, .inr h, rfl, _, rfl, ?_⟩
    have e : (!decide (V.int ((xs.length : Nat) : Int) = V.int 2)) = true := by
      have : ¬ V.int ((xs.length : Nat) : Int) = V.int 2 := fun z => ne (by injection z with z; omega)
      rw [decide_eq_false this]; rfl
    rw [e]
    exact iteT q
  | @one a u v kd h hu ne =>
    refine ⟨_, rfl, _, .tup, .tup, rfl, .tup h, _, rfl, iteF ?_⟩
    refine ⟨_, rfl, a, _, rfl, .inr h, rfl, _, rfl, iteF ?_⟩
    refine ⟨_, rfl, a, _, 0, u, rfl, rfl, h, rfl, u, kd, rfl, hu, _, rfl, ?_⟩
    rw [beqF ne]
    exact iteT (iteT q)
  | @two a i v kd h hv ne =>
    refine ⟨_, rfl, _, .tup, .tup, rfl, .tup h, _, rfl, iteF ?_⟩
    refine ⟨_, rfl, a, _, rfl, .inr h, rfl, _, rfl, iteF ?_⟩
    refine ⟨_, rfl, a, _, 0, _, rfl, rfl, h, rfl, _, .int, rfl, .int i, _, rfl, iteF ?_⟩
    refine ⟨_, rfl, a, _, 1, v, rfl, rfl, h, rfl, v, kd, rfl, hv, _, rfl, ?_⟩
    rw [beqF ne]
    exact iteT q
  | @nums a i j h =>
    refine ⟨_, rfl, _, .tup, .tup, rfl, .tup h, _, rfl, iteF ?_⟩
    refine ⟨_, rfl, a, _, rfl, .inr h, rfl, _, rfl, iteF ?_⟩
    refine ⟨_, rfl, a, _, 0, _, rfl, rfl, h, rfl, _, .int, rfl, .int i, _, rfl, iteF ?_⟩
    refine ⟨_, rfl, a, _, 1, _, rfl, rfl, h, rfl, _, .int, rfl, .int j, _, rfl, iteF ?_⟩
    refine ⟨_, rfl, a, _, 0, _, rfl, rfl, h, rfl, _, _, rfl, rfl, _, rfl, ?_⟩
    by_cases c0 : 0 ≤ i
    · rw [decide_eq_true c0]
      refine iteT ⟨_, rfl, a, _, 1, _, rfl, rfl, h, rfl, _, _, rfl, rfl, _, rfl, ?_⟩
      by_cases c1 : i < j
      · rw [decide_eq_true c1]
        refine iteT ⟨_, rfl, _, _, rfl, rfl, ?_⟩
        have e : decide (0 ≤ i ∧ i < j ∧ j < n) = decide (j < n) := by simp [c0, c1]
        rw [e] at q
        exact q
      · rw [decide_eq_false c1]
        rw [decide_eq_false (fun z => c1 z.2.1)] at q
        exact iteF q
    · rw [decide_eq_false c0]
      rw [decide_eq_false (fun z => c0 z.1)] at q
      exact iteF q
def spMerged (K : PySem.W.Frag) : Sp := fun vs H Q _ => ∃ (h a : Addr) (hs : List Nat) (i j : Nat), vs = [.ref h, .ref a] ∧ SqL K H h (ordV hs) ∧ SqT K H a [.int (i : Int), .int (j : Int)] ∧ i < hs.length ∧ j < hs.length ∧ hs.length ≤ 1000 ∧
  ∀ (p : Addr), H p = none → Q (.ref p) (upd H p (.lst (ordV (HG.mergeL hs i j))))
theorem scMerged : FnScope ["homes", "rod", "kept", "lost"] ["homes", "rod"] (defScope sMerged) := ⟨rfl, rfl, rfl, by decide +kernel, rfl, by decide +kernel, by decide +kernel⟩
theorem ndMerged : ((["home"] : List Str) ++ (["homes", "rod", "kept", "lost"] : List Str)).Nodup := by decide +kernel
theorem ord_nat {o : List Nat} {x : Nat} (h : x < o.length) : atI (ordV o) (x : Int) = some (.int ((o.getD x 0 : Nat) : Int)) :=
  atI_nat (by unfold ordV; rw [List.getElem?_map, List.getElem?_eq_getElem h, List.getD_eq_getElem?_getD, List.getElem?_eq_getElem h]; rfl)
theorem ok_merged {k : Nat} {f : Addr} {fd : FuncData} (F : Fun K "merged" "merged" sMerged f fd) : FnOk P w K mg base CX0 (k + 1) f fd ["homes", "rod"] (spMerged K) := by
  refine F.ok scMerged (fun vs H Q E h => ?_) (fun cdv A outer s H vs Q E hr h => ?_)
  · obtain ⟨h, a, hs, i, j, rfl, _⟩ := h
    rfl
  obtain ⟨h, a, hs, i, j, rfl, hL, hT, hi, hj, hz, q⟩ := h
  refine ⟨_, pss_cons (ps_set (i := 2) scMerged.nd rfl (Or.inr rfl) (pe_ix ix_list (pv 0) (pe_ix ix_tup (pv 1) pe_int (fun _ _ => rfl)) (fun _ _ => rfl)))
    <| pss_cons (ps_set (i := 3) scMerged.nd rfl (Or.inr rfl) (pe_ix ix_list (pv 0) (pe_ix ix_tup (pv 1) pe_int (fun _ _ => rfl)) (fun _ _ => rfl)))
    <| pss_one (ps_ret (pe_comp (own := ["home"]) rfl (compSc rfl) (pi_list (pv 0)) (fun b => pg_name (i := 0) ndMerged rfl (Or.inl rfl)) (fun b => own_name (by decide)) (fun b => pf_nil)
      (fun b => pe_ifExp (pt_cmpR op_eq (pv 0) (pv 4) (nomark _)) (pv 3) (pv 0)))), ?_⟩
  refine ⟨_, rfl, _, rfl, a, _, 0, _, rfl, rfl, hT, rfl, h, _, _, _, rfl, rfl, hL, ord_nat hi, ?_⟩
  refine ⟨_, rfl, _, rfl, a, _, 1, _, rfl, rfl, hT, rfl, h, _, _, _, rfl, rfl, hL, ord_nat hj, ?_⟩
  refine ⟨_, rfl, h, rfl, ⟨_, hL⟩, ?_⟩
  have ol : (ordV hs).length = hs.length := by unfold ordV; rw [List.length_map]
  refine comp_list (xs := ordV hs) (fun m acc H2 => H2 = H ∧ acc = ordV ((hs.take m).map fun x => if x = hs.getD j 0 then hs.getD i 0 else x)) ⟨rfl, rfl⟩ (by omega) (fun m acc H2 _ ⟨e, ea⟩ => ⟨?_, by rw [e]; exact hL⟩) (fun m x acc H2 b hx ⟨e, ea⟩ R hR => ?_) (fun acc H2 ⟨e, ea⟩ p hp => ?_)
  · rw [ea]; unfold ordV; rw [List.length_map, List.length_map, List.length_take]; omega
  · subst e
    unfold ordV at hx
    rw [List.getElem?_map] at hx
    cases hm : hs[m]? with
    | none => rw [hm] at hx; cases hx
    | some u =>
      rw [hm] at hx
      obtain rfl : V.int (u : Int) = x := Option.some.inj hx
      have tk : hs.take (m + 1) = hs.take m ++ [u] := by rw [List.take_add_one, hm]; rfl
      refine gn_yes ?_
      refine ⟨_, rfl, _, rfl, rfl, _, rfl, ?_⟩
      by_cases c : u = hs.getD j 0
      · have e1 : decide (V.int (u : Int) = V.int ((hs.getD j 0 : Nat) : Int)) = true := decide_eq_true (by rw [c])
        rw [e1]
        refine iteT ⟨_, rfl, hR _ _ ⟨rfl, ?_⟩⟩
        rw [ea, tk, List.map_append]
        unfold ordV
        rw [List.map_append, List.map_cons, List.map_cons, if_pos c]; rfl
      · have e1 : decide (V.int (u : Int) = V.int ((hs.getD j 0 : Nat) : Int)) = false := decide_eq_false (fun z => c (by injection z with z; omega))
        rw [e1]
        refine iteF ⟨_, rfl, hR _ _ ⟨rfl, ?_⟩⟩
        rw [ea, tk, List.map_append]
        unfold ordV
        rw [List.map_append, List.map_cons, List.map_cons, if_neg c]; rfl
  · subst e
    have e3 : hs.take (ordV hs).length = hs := by rw [ol, List.take_length]
    rw [e3] at ea
    subst ea
    exact q p hp
end
end Hd
namespace Hd
open PySem L2
abbrev sChecked : Stmt := top 10
section
variable {P : Program} {w : World} {K : PySem.W.Frag} {mg : Str → Option Value} {base : Heap}
def spChk0 (K : PySem.W.Frag) : Sp := fun vs H Q _ => ∃ (t l : Addr) (n : Nat) (as : List Addr) (ks : List (Int × Int)), vs = [.ref t] ∧ HgAt K H t n l as ks ∧
  ∀ (t2 l2 : Addr) (H' : Hp), Same H H' → H' t2 = some (.tup [.int (n : Int), .ref l2]) → H' l2 = some (.lst (as.map V.ref)) → H l2 = none → Q (.ref t2) H'
def NC : List Str := ["hedge", "many", "rods", "homes", "at", "rod"]
theorem scChecked : FnScope NC ["hedge"] (defScope sChecked) := ⟨rfl, rfl, rfl, by decide +kernel, rfl, by decide +kernel, by decide +kernel⟩
theorem lex_pkey {a b : Int × Int} (ha : 0 ≤ a.2 ∧ a.2 < 1000) (hb : 0 ≤ b.2 ∧ b.2 < 1000) : lexOp (fun i j => decide (i ≤ j)) true [a.1, a.2] [b.1, b.2] = decide (HG.pkey a ≤ HG.pkey b) := by
  unfold lexOp lexOp lexOp HG.pkey
  by_cases h1 : a.1 = b.1
  · rw [if_pos h1]
    by_cases h2 : a.2 = b.2
    · rw [if_pos h2, decide_eq_true (by omega)]
    · rw [if_neg h2]
      congr 1
      apply propext
      constructor <;> intro z <;> omega
  · rw [if_neg h1]
    congr 1
    apply propext
    constructor <;> intro z <;> omega
theorem ok_chk0 {k : Nat} {f ff fr fm : Addr} {fd df dr dm : FuncData} (F : Fun K "checked" "checked" sChecked f fd)
    (GF : FnOk P w K mg base CX0 k ff df ["thing"] (spIsF K)) (bF : Binds K df ["thing"] []) (kF : PySem.W.keepIn K (.ref ff) = true) (mF : mg "is_hedge_form" = some (.ref ff))
    (GR : FnOk P w K mg base CX0 k fr dr ["thing", "many"] (spIsR K)) (bR : Binds K dr ["thing", "many"] []) (kR : PySem.W.keepIn K (.ref fr) = true) (mR : mg "is_rod" = some (.ref fr))
    (GM : FnOk P w K mg base CX0 k fm dm ["homes", "rod"] (spMerged K)) (bM : Binds K dm ["homes", "rod"] []) (kM : PySem.W.keepIn K (.ref fm) = true) (mM : mg "merged" = some (.ref fm))
    (mls : mg "list" = none) (mr : mg "range" = none) (me : mg "enumerate" = none) : FnOk P w K mg base CX0 (k + 1) f fd ["hedge"] (spChk0 K) := by
  refine F.ok scChecked (fun vs H Q E h => ?_) (fun cdv A outer s H vs Q E hr h => ?_)
  · obtain ⟨t, l, n, as, ks, rfl, _⟩ := h
    rfl
  obtain ⟨t, l, n, as, ks, rfl, hg, q⟩ := h
  have hu := hr.units
  have hu1 : (A.deeper (PyProof.Rows.envOfC "checked" (defScope sChecked) s.heap.objs.size f cdv)).units < cLine := by omega
  refine ⟨_, pss_cons (ps_if (pt_not (pt_val (pe_call GF hr rfl mF kF bF .nil pass0 (pa_cons (pv 0) pa_nil)))) pss_never pss_nil)
    <| pss_cons (ps_set (i := 1) scChecked.nd rfl (Or.inl rfl) (pe_ix ix_tup (pv 0) pe_int (fun _ _ => rfl)))
    <| pss_cons (ps_set (i := 2) scChecked.nd rfl (Or.inl rfl) (pe_lst pa_nil))
    <| pss_cons (ps_set (i := 3) scChecked.nd rfl (Or.inl rfl) (pe_list_range rfl rfl mls rfl mr (pv 1)))
    <| pss_cons (ps_for PassesOwn.never rfl (pi_enum rfl me PyProof.Rows.boot_enumerate (pa_cons (pe_ix ix_tup (pv 0) pe_int (fun _ _ => rfl)) pa_nil)) (pg_tup rfl (pgs_cons (pg_name (i := 4) scChecked.nd rfl (Or.inl rfl)) (pgs_cons (pg_name (i := 5) scChecked.nd rfl (Or.inl rfl)) pgs_nil)))
      (pss_cons (ps_if (pt_not (pt_val (pe_call GR hr rfl mR kR bR .nil pass0 (pa_cons (pv 5) (pa_cons (pv 1) pa_nil))))) pss_never pss_nil)
      <| pss_cons (ps_mid (ps_if (PW.pt (pw_and (pt_truth (pv 2) (fun _ => rfl)) (pw_and1 (pt_cmpR (op_leT hu1) (pv 5) (pe_ix ix_list (pv 2) (pe_un un_neg pe_int) (fun _ _ => rfl)) (nomark _))))) pss_never pss_nil))
      <| pss_cons (ps_if (pt_cmpR op_eq (pe_ix ix_list (pv 3) (pe_ix ix_tup (pv 5) pe_int (fun _ _ => rfl)) (fun _ _ => rfl)) (pe_ix ix_list (pv 3) (pe_ix ix_tup (pv 5) pe_int (fun _ _ => rfl)) (fun _ _ => rfl)) (nomark _)) pss_never pss_nil)
      <| pss_cons (ps_set (i := 3) scChecked.nd rfl (Or.inl rfl) (pe_call GM hr rfl mM kM bM .nil pass0 (pa_cons (pv 3) (pa_cons (pv 5) pa_nil))))
      <| pss_one (ps_expr (pe_bm PySem.F.plainAttrs_list PySem.F.slot_list_append PySem.F.type_list_append mt_append (pv 2) (pa_cons (pv 5) pa_nil)))))
    <| pss_one (ps_ret (pe_tup (pa_cons (pv 1) (pa_cons (pv 2) pa_nil)))), ?_⟩
  have npos := hg.ok.pos
  have nmost := hg.ok.most
  have klen := hg.ok.len
  have alen : as.length = ks.length := hg.prs.1
  have hrod : ∀ k ∈ ks, 0 ≤ k.1 ∧ k.1 < k.2 ∧ k.2 < (n : Int) := fun k hk => hg.ok.rod hk
  have eform : decide ((((as.map V.ref).length : Nat) : Int) = (n : Int) - 1) = true := decide_eq_true (by rw [List.length_map]; omega)
  have form := FormV.list (K := K) (H := H) hg.tup (by omega) (by omega) hg.lst
  rw [eform] at form
  refine ⟨_, rfl, _, true, rfl, form, _, rfl, iteF ?_⟩
  refine ⟨_, rfl, t, _, 0, _, rfl, rfl, hg.tup, rfl, ?_⟩
  refine ⟨line0, fun pr hpr => ?_⟩
  refine ⟨_, rfl, n, rfl, by omega, fun ph hph => ?_⟩
  have s1 : Same H (upd H pr (.lst [])) := same_new hpr _
  have phn : H ph = none := s1.free hph
  have nrh : pr ≠ ph := ne_of_none upd_same hph
  have s2 := s1.trans (same_new hph (.lst ((List.range n).map fun (i : Nat) => V.int (i : Int))))
  refine ⟨_, rfl, t, _, 1, _, rfl, rfl, same_tup s2 hg.tup, rfl, l, rfl, ⟨_, s2.seq hg.lst⟩, ?_⟩
  have la : (as.map V.ref).length = ks.length := by rw [List.length_map]; exact alen
  refine for_enum (xs := as.map V.ref) (fun i σ H2 => ∃ h4 s4 s5, σ = [some (.ref t), some (.int (n : Int)), some (.ref pr), some (.ref h4), s4, s5] ∧ Same H H2 ∧ H2 pr = some (.lst ((as.take i).map V.ref)) ∧ H2 h4 = some (.lst (ordV (HG.homesAt n ks i))))
    ⟨ph, none, none, rfl, s2, by rw [upd_ne nrh]; exact upd_same, upd_same⟩ (fun i σ H2 _ ⟨h4, s4, s5, e, sm2, _⟩ => sm2.seq hg.lst) (fun i x σ H2 T hx hP hT => ?_) (fun σ H2 hP => ?_)
  · obtain ⟨h4, s4, s5, rfl, sm, hr2, hh2⟩ := hP
    rw [List.getElem?_map] at hx
    cases ha : as[i]? with
    | none => rw [ha] at hx; cases hx
    | some ad =>
      rw [ha] at hx
      obtain rfl : V.ref ad = x := Option.some.inj hx
      have hia : i < as.length := (List.getElem?_eq_some_iff.mp ha).1
      have hik : i < ks.length := by omega
      have hk := List.getElem?_eq_getElem hik
      generalize ks[i] = kk at hk
      have hb := hrod kk (List.mem_of_getElem? hk)
      obtain ⟨ka, kb⟩ := kk
      obtain ⟨u, rfl⟩ : ∃ u : Nat, ka = (u : Int) := ⟨ka.toNat, by have := hb.1; dsimp only at this; omega⟩
      obtain ⟨v, rfl⟩ : ∃ v : Nat, kb = (v : Int) := ⟨kb.toNat, by have := hb.1; have := hb.2.1; dsimp only at *; omega⟩
      dsimp only at hb
      have smT : Same H2 (upd H2 T (.tup [.int (i : Int), .ref ad])) := same_new hT _
      have smA := sm.trans smT
      have had : SqT K (upd H2 T (.tup [.int (i : Int), .ref ad])) ad [.int (u : Int), .int (v : Int)] := same_tup smA (hg.prs.2 i ad _ ha hk)
      refine ⟨T, _, rfl, SqT.of upd_same, rfl, _, _, rfl, _, _, rfl, rfl, ?_⟩
      have rv := RodV.nums (K := K) (n := (n : Int)) had
      rw [decide_eq_true (show 0 ≤ (u : Int) ∧ (u : Int) < (v : Int) ∧ (v : Int) < (n : Int) from ⟨by omega, by omega, by omega⟩)] at rv
      refine ⟨_, rfl, _, rfl, _, _, true, rfl, rv, _, rfl, iteF ?_⟩
      have hr3 := smT _ _ hr2
      have hh3 := smT _ _ hh2
      refine ⟨fun σ' H' => upd H2 T (.tup [.int (i : Int), .ref ad]) = H' ∧ σ' = [some (.ref t), some (.int (n : Int)), some (.ref pr), some (.ref h4), some (.int (i : Int)), some (.ref ad)], ?_, fun σ' H' hP => ?_⟩
      · refine ⟨_, rfl, _, .inl ⟨_, SqL.of hr3, rfl⟩, ?_⟩
        cases i with
        | zero => exact iteF (iteF ⟨rfl, rfl⟩)
        | succ i =>
          have hi0 : i < ks.length := by omega
          have hkp := List.getElem?_eq_getElem hi0
          have hap := List.getElem?_eq_getElem (show i < as.length by omega)
          generalize ks[i] = kp at hkp
          generalize as[i] = ap at hap
          have tk : as.take (i + 1) = as.take i ++ [ap] := by rw [List.take_add_one, hap]; rfl
          have st := hg.ok.strict hkp hk
          have hbp := hrod kp (List.mem_of_getElem? hkp)
          have hap2 := same_tup smA (hg.prs.2 i ap _ hap hkp)
          rw [tk, List.map_append] at hr3 ⊢
          have e1 : (!(List.map V.ref (as.take i) ++ List.map V.ref [ap]).isEmpty) = true := by simp
          rw [e1]
          refine iteT ⟨_, rfl, _, rfl, _, rfl, pr, _, _, _, rfl, rfl, SqL.of hr3, atI_last _ _, ad, ap, [(u : Int), (v : Int)], [kp.1, kp.2], rfl, rfl, had, hap2, rfl, _, rfl, ?_⟩
          rw [lex_pkey (a := ((u : Int), (v : Int))) ⟨by dsimp only; omega, by dsimp only; omega⟩ ⟨by omega, by omega⟩, decide_eq_false (by omega)]
          exact iteF ⟨rfl, rfl⟩
      obtain ⟨rfl, rfl⟩ := hP
      have hom := HG.homesAt_ok hrod i (by omega)
      have nr := hg.ok.no_ring hk
      dsimp only at nr
      rw [Int.toNat_natCast, Int.toNat_natCast] at nr
      refine ⟨_, rfl, _, rfl, ad, _, 0, _, rfl, rfl, had, rfl, h4, _, _, _, rfl, rfl, SqL.of hh3, ord_nat (x := u) (by rw [hom.1]; omega), _, rfl, _, rfl, ad, _, 1, _, rfl, rfl, had, rfl, h4, _, _, _, rfl, rfl, SqL.of hh3, ord_nat (x := v) (by rw [hom.1]; omega), rfl, _, rfl, ?_⟩
      rw [decide_eq_false (fun z => nr (by injection z with z; omega))]
      refine iteF ?_
      refine ⟨_, rfl, _, rfl, h4, ad, HG.homesAt n ks i, u, v, rfl, SqL.of hh3, had, by rw [hom.1]; omega, by rw [hom.1]; omega, by rw [hom.1]; omega, fun pm hpm => ?_⟩
      have smM := same_new hpm (.lst (ordV (HG.mergeL (HG.homesAt n ks i) u v)))
      have hr4 := smM _ _ hr3
      have nmr : pm ≠ pr := fun e => by subst e; rw [hr3] at hpm; cases hpm
      refine ⟨_, rfl, .inl ⟨rfl, _, SqL.of hr4⟩, _, rfl, pr, _, _, rfl, rfl, hr4, small1000 (by rw [List.length_map, List.length_take]; omega), ?_⟩
      refine ⟨pm, _, _, rfl, (smA.trans smM).put hpr _, ?_, ?_⟩
      · rw [upd_same, List.take_add_one, ha, List.map_append]; rfl
      · rw [upd_ne nmr, upd_same, HG.homesAt_succ hk]; rfl
  · obtain ⟨h4, s4, s5, rfl, sm, hr2, hh2⟩ := hP
    rw [List.length_map, List.take_length] at hr2
    refine ⟨_, rfl, _, rfl, line2, fun t2 ht2 => ?_⟩
    have ne : pr ≠ t2 := ne_of_none hr2 ht2
    exact q t2 pr _ (sm.trans (same_new ht2 _)) upd_same (by rw [upd_ne ne]; exact hr2) hpr
end
end Hd
namespace Hd
open PySem L2
abbrev sShown : Stmt := top 12
abbrev sNRead : Stmt := top 13
abbrev sRRead : Stmt := top 14
abbrev sRead : Stmt := top 15
section
variable {P : Program} {w : World} {K : PySem.W.Frag} {mg : Str → Option Value} {base : Heap}
def natK (ks : List (Int × Int)) : List (Nat × Nat) := ks.map fun k => (k.1.toNat, k.2.toNat)
theorem num_of {i : Int} (h : 0 ≤ i) : (toString i : Str) = HG.num i.toNat := by
  unfold HG.num
  rw [Int.toNat_of_nonneg h]
def spShown (K : PySem.W.Frag) : Sp := fun vs H Q _ => ∃ (t l : Addr) (n : Nat) (as : List Addr) (ks : List (Int × Int)), vs = [.ref t] ∧ SqT K H t [.int (n : Int), .ref l] ∧ SqL K H l (as.map V.ref) ∧ IsPairs K H as ks ∧ n ≤ 40 ∧ ks.length ≤ 40 ∧
  (∀ k ∈ ks, 0 ≤ k.1 ∧ k.1 ≤ 40 ∧ 0 ≤ k.2 ∧ k.2 ≤ 40) ∧ ∀ H', Same H H' → Q (.str (HG.row n (natK ks))) H'
theorem scShown : FnScope ["hedge", "words", "less", "more"] ["hedge"] (defScope sShown) := ⟨rfl, rfl, rfl, by decide +kernel, rfl, by decide +kernel, by decide +kernel⟩
theorem word_app (a b : Nat) : Str.empty ++ HG.num a ++ ("-" : Str) ++ HG.num b = HG.word (a, b) := by
  unfold HG.word HG.dash
  rw [Str.empty_append]
theorem word_len {k : Nat × Nat} (h : k.1 < 41 ∧ k.2 < 41) : (HG.word k).length ≤ 5 := by
  have l1 := (HG.num_free _ h.1).2
  have l2 := (HG.num_free _ h.2).2
  unfold HG.word
  rw [← HG.cs_len, HG.cs_app, HG.cs_app, HG.cs_dash]
  rw [← HG.cs_len] at l1 l2
  simp; omega
theorem sum_le {l : List Nat} {b : Nat} (h : ∀ x ∈ l, x ≤ b) : l.sum ≤ b * l.length := by
  induction l with
  | nil => simp
  | cons x l ih =>
    rw [List.sum_cons, List.length_cons]
    have h1 := h x List.mem_cons_self
    have h2 := ih fun y hy => h y (List.mem_cons_of_mem _ hy)
    rw [Nat.mul_succ]; omega
theorem ok_shown {k : Nat} {f : Addr} {fd : FuncData} (F : Fun K "shown" "shown" sShown f fd) (mst : mg "str" = none) : FnOk P w K mg base CX0 (k + 1) f fd ["hedge"] (spShown K) := by
  refine F.ok scShown (fun vs H Q E h => ?_) (fun cdv A outer s H vs Q E hr h => ?_)
  · obtain ⟨t, l, n, as, ks, rfl, _⟩ := h
    rfl
  obtain ⟨t, l, n, as, ks, rfl, hT, hL, hpr, hn, hk, hb, q⟩ := h
  refine ⟨_, pss_cons (ps_set (i := 1) scShown.nd rfl (Or.inl rfl) (pe_lst (pa_cons (pe_callTy call_str_int rfl mst PyProof.Rows.boot_str (pa_cons (pe_ix ix_tup (pv 0) pe_int (fun _ _ => rfl)) pa_nil)) pa_nil)))
    <| pss_cons (ps_for PassesOwn.never rfl (pi_list (pe_ix ix_tup (pv 0) pe_int (fun _ _ => rfl))) (pg_tup rfl (pgs_cons (pg_name (i := 2) scShown.nd rfl (Or.inl rfl)) (pgs_cons (pg_name (i := 3) scShown.nd rfl (Or.inl rfl)) pgs_nil)))
      (pss_one (ps_expr (pe_bm PySem.F.plainAttrs_list PySem.F.slot_list_append PySem.F.type_list_append mt_append (pv 1) (pa_cons (pe_fstr (pj_fmt (pv 2) (pj_con (pj_fmt (pv 3) pj_nil)))) pa_nil)))))
    <| pss_one (ps_ret (pe_bm PySem.F.plainAttrs_str PySem.F.slot_str_join PySem.F.type_str_join mt_join pe_str (pa_cons (pv 1) pa_nil))), ?_⟩
  have e24 := sizeLine_eq
  refine ⟨_, rfl, t, _, 0, _, rfl, rfl, hT, rfl, _, rfl, log_small (by omega) (by omega), one_line, fun p hp => ?_⟩
  have sm0 := same_new hp (.lst [V.str (toString (n : Int))])
  refine ⟨_, rfl, t, _, 1, _, rfl, rfl, same_tup sm0 hT, rfl, l, rfl, ⟨_, sm0.seq hL⟩, ?_⟩
  have bk : ∀ k ∈ natK ks, k.1 < 41 ∧ k.2 < 41 := fun k hk' => by
    obtain ⟨k0, h0, rfl⟩ := List.mem_map.mp hk'
    have := hb k0 h0
    dsimp only; omega
  refine for_list (xs := as.map V.ref) (fun i σ H2 => ∃ s2 s3, σ = [some (.ref t), some (.ref p), s2, s3] ∧ Same H H2 ∧ H2 p = some (.lst ((HG.num n :: ((natK ks).take i).map HG.word).map V.str)))
    ⟨none, none, rfl, sm0, upd_same⟩ (fun i σ H2 _ ⟨s2, s3, e, sm2, _⟩ => sm2.seq hL) (fun i x σ H2 hx hP => ?_) (fun σ H2 hP => ?_)
  · obtain ⟨s2, s3, rfl, sm, hp2⟩ := hP
    rw [List.getElem?_map] at hx
    cases ha : as[i]? with
    | none => rw [ha] at hx; cases hx
    | some ad =>
      rw [ha] at hx
      obtain rfl : V.ref ad = x := Option.some.inj hx
      have hia : i < as.length := (List.getElem?_eq_some_iff.mp ha).1
      have hik : i < ks.length := by have := hpr.1; omega
      have hki := List.getElem?_eq_getElem hik
      generalize ks[i] = kk at hki
      have hbk := hb kk (List.mem_of_getElem? hki)
      have hw : (HG.word (kk.1.toNat, kk.2.toNat)).length ≤ 5 := word_len ⟨by dsimp only; omega, by dsimp only; omega⟩
      have n1 := (HG.num_free kk.1.toNat (by omega)).2
      have z1 : (Str.empty ++ (toString kk.1 : Str)).length ≤ sizeLine := by rw [num_of hbk.1, Str.empty_append]; omega
      have z2 : (Str.empty ++ (toString kk.1 : Str) ++ ("-" : Str)).length ≤ sizeLine := by
        rw [num_of hbk.1, Str.empty_append, ← HG.cs_len, HG.cs_app]
        rw [← HG.cs_len] at n1
        have : (HG.cs ("-" : Str)).length = 1 := by rw [show HG.cs ("-" : Str) = [45] from HG.cs_dash]; rfl
        rw [List.length_append]; omega
      have ew : Str.empty ++ (toString kk.1 : Str) ++ ("-" : Str) ++ (toString kk.2 : Str) = HG.word (kk.1.toNat, kk.2.toNat) := by rw [num_of hbk.1, num_of hbk.2.2.1]; exact word_app _ _
      refine ⟨ad, _, rfl, same_tup sm (hpr.2 i ad kk ha hki), rfl, _, _, rfl, _, _, rfl, rfl, ?_⟩
      refine ⟨_, rfl, .inl ⟨rfl, _, SqL.of hp2⟩, _, rfl, _, ⟨rfl, log_small hbk.1 (by omega)⟩, z1, z2, _, rfl, _, ⟨rfl, log_small hbk.2.2.1 (by omega)⟩, by rw [ew]; omega, by rw [ew]; omega, ?_⟩
      rw [ew]
      refine ⟨p, _, _, rfl, rfl, hp2, small1000 (by rw [List.length_map, List.length_cons, List.length_map, List.length_take]; omega), ?_⟩
      refine ⟨_, _, rfl, sm.put hp _, ?_⟩
      have tk : (natK ks).take (i + 1) = (natK ks).take i ++ [(kk.1.toNat, kk.2.toNat)] := by
        rw [List.take_add_one]
        unfold natK
        rw [List.getElem?_map, hki]; rfl
      rw [upd_same, tk]
      simp
  · obtain ⟨s2, s3, rfl, sm, hp2⟩ := hP
    have ek : (natK ks).take (as.map V.ref).length = natK ks := List.take_of_length_le (by unfold natK; rw [List.length_map, List.length_map, hpr.1]; exact Nat.le_refl _)
    rw [ek] at hp2
    refine ⟨rfl, _, rfl, _, p, _, rfl, rfl, SqL.of hp2, ?_, ?_⟩
    · have nl : (natK ks).length ≤ 40 := by unfold natK; rw [List.length_map]; exact hk
      have s1 := sum_le (l := (HG.num n :: (natK ks).map HG.word).map (·.length)) (b := 5) (fun x hx => by
        obtain ⟨y, hy, rfl⟩ := List.mem_map.mp hx
        rcases List.mem_cons.mp hy with rfl | hy
        · have := (HG.num_free n (by omega)).2; omega
        · obtain ⟨k', hk', rfl⟩ := List.mem_map.mp hy
          exact word_len (bk k' hk'))
      have l1 : (HG.num n :: (natK ks).map HG.word).length ≤ 41 := by rw [List.length_cons, List.length_map]; omega
      have l2 : ((HG.num n :: (natK ks).map HG.word).map (·.length)).length ≤ 41 := by rw [List.length_map]; exact l1
      have b1 : (" " : Str).length = 1 := by decide +kernel
      rw [b1]
      omega
    · have e : Txt.join (" " : Str) (HG.num n :: (natK ks).map HG.word) = HG.row n (natK ks) := HG.row_join n (natK ks)
      rw [e]
      exact q _ sm
def numV : List V := (List.range 41).map fun (i : Nat) => V.str (HG.num i)
def spNRead0 : Sp := fun vs H Q _ => ∃ m : Nat, vs = [.str (HG.num m)] ∧ m < 41 ∧ ∀ H', Same H H' → Q (.int (m : Int)) H'
theorem scNRead : FnScope ["word", "numerals"] ["word"] (defScope sNRead) := ⟨rfl, rfl, rfl, by decide +kernel, rfl, by decide +kernel, by decide +kernel⟩
theorem ndNRead : ((["number"] : List Str) ++ (["word", "numerals"] : List Str)).Nodup := by decide +kernel
theorem numV_get {m : Nat} (h : m < 41) : numV[m]? = some (V.str (HG.num m)) := by unfold numV; rw [List.getElem?_map, List.getElem?_range h]; rfl
theorem numV_flat : numV.all flatV = true := by
  rw [List.all_eq_true]
  intro z hz
  obtain ⟨b, _, rfl⟩ := List.mem_map.mp hz
  rfl
theorem eqV_str (a b : Str) : eqV (.str a) (.str b) = (a == b) := rfl
theorem numV_in {m : Nat} (h : m < 41) : inV (.str (HG.num m)) numV = true := by
  unfold inV
  rw [List.any_eq_true]
  exact ⟨_, List.mem_of_getElem? (numV_get h), by rw [eqV_str]; exact beq_self_eq_true _⟩
theorem ok_nread0 {k : Nat} {f : Addr} {fd : FuncData} (F : Fun K "number_read" "number_read" sNRead f fd) (mst : mg "str" = none) (mr : mg "range" = none) {tk : Tok} (mM : mg "MOST_KNOTS" = some (.int 40 tk)) : FnOk P w K mg base CX0 (k + 1) f fd ["word"] spNRead0 := by
  refine F.ok scNRead (fun vs H Q E h => ?_) (fun cdv A outer s H vs Q E hr h => ?_)
  · obtain ⟨m, rfl, _⟩ := h
    rfl
  obtain ⟨m, rfl, hm, q⟩ := h
  refine ⟨_, pss_cons (ps_comp (own := ["number"]) (i := 1) scNRead.nd rfl (Or.inl rfl) rfl (compSc rfl) (pi_range1 rfl mr (pa_cons (pe_op op_add (pe_glob (v := .int 40) rfl mM ⟨_, rfl⟩) pe_int) pa_nil)) (fun b => pg_name (i := 0) ndNRead rfl (Or.inl rfl)) (fun b => own_name (by decide)) (fun b => pf_nil)
      (fun b => pe_callTy call_str_int rfl mst PyProof.Rows.boot_str (pa_cons (pv 0) pa_nil)))
    <| pss_cons (ps_if (pt_cmpR op_notIn_seq (pv 0) (pv 1) (by with_unfolding_all rfl)) pss_never pss_nil)
    <| pss_one (ps_ret (pe_bm PySem.F.plainAttrs_list PySem.F.slot_list_index PySem.F.type_list_index mt_index (pv 1) (pa_cons (pv 0) pa_nil))), ?_⟩
  refine ⟨_, _, rfl, rfl, 41, rfl, by decide, by decide, ?_⟩
  refine comp_range (lo := 0) (n := 41) (fun i acc H' => H' = H ∧ acc = numV.take i) ⟨rfl, rfl⟩ (by decide) (fun i acc H' _ ⟨_, e⟩ => by rw [e, List.length_take]; omega) (fun i acc H' b hi hp R hR => ?_) (fun acc H' hp p hpn => ?_)
  · obtain ⟨rfl, rfl⟩ := hp
    refine gn_yes ?_
    refine ⟨_, rfl, _, rfl, log_small (by omega) (by omega), hR _ _ ⟨rfl, ?_⟩⟩
    rw [List.take_add_one, numV_get hi, num_of (by omega)]
    have e : (0 + (i : Int)).toNat = i := by omega
    rw [e]; rfl
  · obtain ⟨rfl, rfl⟩ := hp
    have e : numV.take 41 = numV := List.take_of_length_le (by unfold numV; simp)
    rw [e]
    refine ⟨_, rfl, _, rfl, p, numV, rfl, .inl (SqL.of upd_same), rfl, numV_flat, _, rfl, ?_⟩
    rw [numV_in hm]
    refine iteF ?_
    refine ⟨_, rfl, .inl ⟨rfl, _, SqL.of upd_same⟩, _, rfl, p, numV, _, m, rfl, rfl, SqL.of upd_same, rfl, numV_flat, ⟨_, numV_get hm, by rw [eqV_str]; exact beq_self_eq_true _⟩, fun j z hj hz => ?_, q _ (same_new hpn _)⟩
    rw [numV_get (by omega)] at hz
    obtain rfl := Option.some.inj hz
    rw [eqV_str]
    cases e : HG.num j == HG.num m with
    | false => rfl
    | true =>
      have := HG.num_inj j (by omega) m hm (eq_of_beq e)
      omega
def spRRead0 : Sp := fun vs H Q _ => ∃ k : Nat × Nat, vs = [.str (HG.word k)] ∧ k.1 < 41 ∧ k.2 < 41 ∧ ∀ (p : Addr) (H' : Hp), Same H H' → H' p = some (.tup [.int (k.1 : Int), .int (k.2 : Int)]) → Q (.ref p) H'
theorem scRRead : FnScope ["word", "halves"] ["word"] (defScope sRRead) := ⟨rfl, rfl, rfl, by decide +kernel, rfl, by decide +kernel, by decide +kernel⟩
theorem partV_eq (z y : Str) : partV z y = [.str (Txt.partition z y).1, .str (Txt.partition z y).2.1, .str (Txt.partition z y).2.2] := by
  unfold partV Txt.partition
  cases Builtin.Str.occurrences z y 0 z.length 1 <;> rfl
theorem ok_rread0 {k : Nat} {f fn : Addr} {fd dn : FuncData} (F : Fun K "rod_read" "rod_read" sRRead f fd) (GN : FnOk P w K mg base CX0 k fn dn ["word"] spNRead0) (bN : Binds K dn ["word"] []) (kN : PySem.W.keepIn K (.ref fn) = true) (mN : mg "number_read" = some (.ref fn)) : FnOk P w K mg base CX0 (k + 1) f fd ["word"] spRRead0 := by
  refine F.ok scRRead (fun vs H Q E h => ?_) (fun cdv A outer s H vs Q E hr h => ?_)
  · obtain ⟨m, rfl, _⟩ := h
    rfl
  obtain ⟨kk, rfl, h1, h2, q⟩ := h
  refine ⟨_, pss_cons (ps_set (i := 1) scRRead.nd rfl (Or.inl rfl) (pe_bm PySem.F.plainAttrs_str PySem.F.slot_str_partition PySem.F.type_str_partition mt_partition (pv 0) (pa_cons pe_str pa_nil)))
    <| pss_one (ps_ret (pe_tup (pa_cons (pe_call GN hr rfl mN kN bN .nil pass0 (pa_cons (pe_ix ix_tup (pv 1) pe_int (fun _ _ => rfl)) pa_nil)) (pa_cons (pe_call GN hr rfl mN kN bN .nil pass0 (pa_cons (pe_ix ix_tup (pv 1) pe_int (fun _ _ => rfl)) pa_nil)) pa_nil)))), ?_⟩
  have wl := word_len (k := kk) ⟨h1, h2⟩
  have e24 := sizeLine_eq
  obtain ⟨p1, p2⟩ := HG.part_word (k := kk) ⟨h1, h2⟩
  refine ⟨_, rfl, rfl, _, _, rfl, rfl, by decide +kernel, by omega, fun p hp => ?_⟩
  have ep : partV (HG.word kk) ("-" : Str) = [.str (HG.num kk.1), .str (Txt.partition (HG.word kk) ("-" : Str)).2.1, .str (HG.num kk.2)] := by
    rw [partV_eq]
    have p1' : (Txt.partition (HG.word kk) ("-" : Str)).1 = HG.num kk.1 := p1
    have p2' : (Txt.partition (HG.word kk) ("-" : Str)).2.2 = HG.num kk.2 := p2
    rw [p1', p2']
  rw [ep]
  refine ⟨_, rfl, p, _, 0, _, rfl, rfl, SqT.of upd_same, rfl, kk.1, rfl, h1, fun H1 sm1 => ?_⟩
  refine ⟨_, rfl, p, _, 2, _, rfl, rfl, same_tup sm1 (SqT.of upd_same), rfl, kk.2, rfl, h2, fun H2 sm2 => ?_⟩
  refine ⟨line2, fun r hr' => ?_⟩
  exact q r _ ((same_new hp _).trans (sm1.trans (sm2.trans (same_new hr' _)))) upd_same
def spRead0 (K : PySem.W.Frag) : Sp := fun vs H Q _ => ∃ (n : Nat) (ks : List (Int × Int)), vs = [.str (HG.row n (natK ks))] ∧ HG.HedgeOk n ks ∧
  ∀ (t l : Addr) (as : List Addr) (H' : Hp), Same H H' → HgAt K H' t n l as ks → H' t = some (.tup [.int (n : Int), .ref l]) → H' l = some (.lst (as.map V.ref)) → Q (.ref t) H'
theorem scRead : FnScope ["text", "words", "many", "rods"] ["text"] (defScope sRead) := ⟨rfl, rfl, rfl, by decide +kernel, rfl, by decide +kernel, by decide +kernel⟩
theorem ndRead : ((["word"] : List Str) ++ (["text", "words", "many", "rods"] : List Str)).Nodup := by decide +kernel
theorem ok_read0 {k : Nat} {f fn fr fc : Addr} {fd dn dr dc : FuncData} (F : Fun K "read" "read" sRead f fd)
    (GN : FnOk P w K mg base CX0 k fn dn ["word"] spNRead0) (bN : Binds K dn ["word"] []) (kN : PySem.W.keepIn K (.ref fn) = true) (mN : mg "number_read" = some (.ref fn))
    (GR : FnOk P w K mg base CX0 k fr dr ["word"] spRRead0) (bR : Binds K dr ["word"] []) (kR : PySem.W.keepIn K (.ref fr) = true) (mR : mg "rod_read" = some (.ref fr))
    (GC : FnOk P w K mg base CX0 k fc dc ["hedge"] (spChk0 K)) (bC : Binds K dc ["hedge"] []) (kC : PySem.W.keepIn K (.ref fc) = true) (mC : mg "checked" = some (.ref fc))
    (mi : mg "isinstance" = none) (mst : mg "str" = none) : FnOk P w K mg base CX0 (k + 1) f fd ["text"] (spRead0 K) := by
  refine F.ok scRead (fun vs H Q E h => ?_) (fun cdv A outer s H vs Q E hr h => ?_)
  · obtain ⟨n, ks, rfl, _⟩ := h
    rfl
  obtain ⟨n, ks, rfl, ok, q⟩ := h
  refine ⟨_, pss_cons (ps_if (pt_not (pt_val (pe_callB call_isK rfl mi PyProof.Rows.boot_isinstance (pa_cons (pv 0) (pa_cons (pe_bltn (v := .ty "str") rfl mst PyProof.Rows.boot_str rfl) pa_nil))))) pss_never pss_nil)
    <| pss_cons (ps_set (i := 1) scRead.nd rfl (Or.inl rfl) (pe_bm PySem.F.plainAttrs_str PySem.F.slot_str_split PySem.F.type_str_split mt_split (pv 0) (pa_cons pe_str pa_nil)))
    <| pss_cons (ps_set (i := 2) scRead.nd rfl (Or.inl rfl) (pe_call GN hr rfl mN kN bN .nil pass0 (pa_cons (pe_ix ix_list (pv 1) pe_int (fun _ _ => rfl)) pa_nil)))
    <| pss_cons (ps_comp (own := ["word"]) (i := 3) scRead.nd rfl (Or.inl rfl) rfl (compSc rfl) (pi_list (pe_slice sl_list (pv 1) (po_some pe_int) po_none)) (fun b => pg_name (i := 0) ndRead rfl (Or.inl rfl)) (fun b => own_name (by decide)) (fun b => pf_nil)
      (fun b => pe_call GR hr rfl mR kR bR .nil pass0 (pa_cons (pv 0) pa_nil)))
    <| pss_one (ps_try_nox (pss_one (ps_ret (pe_call GC hr rfl mC kC bC .nil pass0 (pa_cons (pe_tup (pa_cons (pv 2) (pa_cons (pv 3) pa_nil))) pa_nil))))), ?_⟩
  have e24 := sizeLine_eq
  have n1 := ok.pos
  have n40 := ok.most
  have kl := ok.len
  have bk : ∀ k ∈ natK ks, k.1 < 41 ∧ k.2 < 41 := fun k hk' => by
    obtain ⟨k0, h0, rfl⟩ := List.mem_map.mp hk'
    have := ok.rod h0
    dsimp only; omega
  have nl : (natK ks).length = ks.length := by unfold natK; rw [List.length_map]
  have rl : (HG.row n (natK ks)).length ≤ 1000 := by
    have z := HG.row_len (natK ks) bk (HG.num n)
    have := (HG.num_free n (by omega)).2
    unfold HG.row
    omega
  refine ⟨_, rfl, _, .str, .str, rfl, .str _, _, rfl, iteF ?_⟩
  refine ⟨_, rfl, rfl, _, _, rfl, rfl, by decide +kernel, by omega, fun p hp => ?_⟩
  have es : Txt.split (HG.row n (natK ks)) (" " : Str) = HG.num n :: (natK ks).map HG.word := HG.split_row (by omega) bk
  rw [es]
  refine ⟨_, rfl, p, _, 0, _, rfl, rfl, SqL.of upd_same, atI_nat (j := 0) rfl, n, rfl, by omega, fun H1 sm1 => ?_⟩
  have hp1 := sm1 _ _ (show upd H p (.lst ((HG.num n :: (natK ks).map HG.word).map V.str)) p = _ from upd_same)
  refine ⟨_, rfl, 1, rfl, p, _, rfl, SqL.of hp1, fun pc hpc => ?_⟩
  have ec : cutV ((HG.num n :: (natK ks).map HG.word).map V.str) (some 1) none = ((natK ks).map HG.word).map V.str := by
    unfold cutV
    rw [List.map_cons]
    have e1 : HT.sIx (V.str (HG.num n) :: ((natK ks).map HG.word).map V.str).length 0 (some 1) = 1 := by unfold HT.sIx; simp
    have e2 : HT.sIx (V.str (HG.num n) :: ((natK ks).map HG.word).map V.str).length (V.str (HG.num n) :: ((natK ks).map HG.word).map V.str).length none = (V.str (HG.num n) :: ((natK ks).map HG.word).map V.str).length := rfl
    rw [e1, e2, List.drop_succ_cons, List.drop_zero]
    exact List.take_of_length_le (by simp)
  rw [ec]
  have smc := same_new hpc (.lst (((natK ks).map HG.word).map V.str))
  refine ⟨pc, rfl, ⟨_, SqL.of upd_same⟩, ?_⟩
  have sm01 := (same_new hp _).trans (sm1.trans smc)
  refine comp_list (xs := ((natK ks).map HG.word).map V.str) (fun i acc H2 => Same (upd H1 pc (.lst (((natK ks).map HG.word).map V.str))) H2 ∧ ∃ as : List Addr, acc = as.map V.ref ∧ as.length = i ∧ IsPairs K H2 as (ks.take i))
    ⟨Same.refl _, [], rfl, rfl, rfl, fun i a k z => by simp at z⟩ (by rw [List.length_map, List.length_map]; omega) (fun i acc H2 hi ⟨sm, as, e, hl, _⟩ => ⟨by rw [e, List.length_map, hl]; exact Nat.le_refl _, sm.seq (SqL.of upd_same)⟩) (fun i x acc H2 b hx ⟨sm, as, e, hl, hpr⟩ R hR => ?_) (fun acc H2 ⟨sm, as, e, hl, hpr⟩ pr hprn => ?_)
  · rw [List.getElem?_map, List.getElem?_map] at hx
    have hx2 : (natK ks)[i]? = (ks[i]?).map fun k => (k.1.toNat, k.2.toNat) := by unfold natK; rw [List.getElem?_map]
    rw [hx2] at hx
    cases hk : ks[i]? with
    | none => rw [hk] at hx; cases hx
    | some kk =>
      rw [hk] at hx
      obtain rfl : V.str (HG.word (kk.1.toNat, kk.2.toNat)) = x := Option.some.inj hx
      have rod := ok.rod (List.mem_of_getElem? hk)
      refine gn_yes ?_
      refine ⟨_, rfl, (kk.1.toNat, kk.2.toNat), rfl, by dsimp only; omega, by dsimp only; omega, fun a H3 sm3 ha => ?_⟩
      have e2 : as.map V.ref ++ [V.ref a] = (as ++ [a]).map V.ref := by simp
      subst e
      show R (as.map V.ref ++ [V.ref a]) H3
      rw [e2]
      refine hR _ _ ⟨sm.trans sm3, as ++ [a], rfl, by simp [hl], ?_⟩
      have tk : ks.take (i + 1) = ks.take i ++ [kk] := by rw [List.take_add_one, hk]; rfl
      rw [tk]
      refine pairs_snoc (same_pairs sm3 hpr) (.inl (.inl ?_))
      dsimp only at ha
      rw [ha, Int.toNat_of_nonneg rod.1, Int.toNat_of_nonneg (by omega)]
  · subst e
    have ek : ks.take (((natK ks).map HG.word).map V.str).length = ks := List.take_of_length_le (by rw [List.length_map, List.length_map]; omega)
    rw [ek] at hpr
    have smr := same_new hprn (.lst (as.map V.ref))
    refine ⟨_, rfl, _, rfl, line2, fun pt hpt => ?_⟩
    have smt := same_new hpt (.tup [V.int (n : Int), V.ref pr])
    have hg : HgAt K (upd (upd H2 pr (.lst (as.map V.ref))) pt (.tup [V.int (n : Int), V.ref pr])) pt n pr as ks := ⟨SqT.of upd_same, smt.seq (SqL.of upd_same), same_pairs (smr.trans smt) hpr, ok⟩
    refine ⟨pt, pr, n, as, ks, rfl, hg, fun t2 l2 H' sm' ht2 hl2 _ => ?_⟩
    exact q t2 l2 as H' (sm01.trans (sm.trans (smr.trans (smt.trans sm')))) ⟨SqT.of ht2, SqL.of hl2, same_pairs sm' hg.prs, ok⟩ ht2 hl2
end
end Hd
namespace Hd
open PySem L2
def clsDef (s : Stmt) (i : Nat) : Stmt := match s with
  | .ClassDef _ _ _ b _ _ _ _ _ _ _ => b.getD i (.Pass ⟨0, 0, 0, 0⟩)
  | _ => .Pass ⟨0, 0, 0, 0⟩
abbrev sInit : Stmt := clsDef (top 2) 0
structure BadCls (K : PySem.W.Frag) (mg : Str → Option Value) (base : Heap) (C D fI : Addr) : Prop where
  own : OwnI C D fI base
  kp : PySem.W.keepIn K (.ref C) = true
  cls : XCls K C D
  get : XGet K C
  no : NoAttr K C "at"
  ini : XIni K D
  mC : mg "BadHedge" = some (.ref C)
  mD : mg "HedgeError" = some (.ref D)
def badIn (K : PySem.W.Frag) (C D fI : Addr) : Bool := ownIIn K C D fI && PySem.W.keepIn K (.ref C) && (PySem.W.clsIn K C).any (fun cd => cd.mro == (.ref C :: .ref D :: bmV) && cd.hasDict) && PySem.W.findIn K (.ref C) "__setattr__" == some (some (.builtin "object.__setattr__")) &&
  PySem.W.findIn K (.ref C) "__getattribute__" == some (some (.builtin "BaseException.__getattribute__")) && PySem.W.findIn K (.ref C) "__getattr__" == some none && PySem.W.findIn K (.ref C) "at" == some none && PySem.W.readsIn K D (.type "type") &&
  (match PySem.W.findCls K (.ref D) (.type "type") "__init__" with | some (.val v) => v == .builtin "ValueError.__init__" | _ => false) && PySem.W.specialIn K (.ref D) "__getattribute__" == some (some (.builtin "type.__getattribute__")) &&
  PySem.W.exmOne K (.ref C) (.ref C) == some true && PySem.W.exmOne K (.ref C) (.ref D) == some true && PySem.W.kitOne K (.ref C) (.type "ValueError") == some true
structure Takes (K : PySem.W.Frag) (C D : Addr) : Prop where
  own : PySem.W.exmOne K (.ref C) (.ref C) = some true
  up : PySem.W.exmOne K (.ref C) (.ref D) = some true
  val : PySem.W.kitOne K (.ref C) (.type "ValueError") = some true
theorem bad_of {K : PySem.W.Frag} {mg : Str → Option Value} {base : Heap} {C D fI : Addr} (X : K.In base) (h : badIn K C D fI = true) (mC : mg "BadHedge" = some (.ref C)) (mD : mg "HedgeError" = some (.ref D)) : BadCls K mg base C D fI ∧ Takes K C D := by
  unfold badIn at h
  simp only [Bool.and_eq_true, beq_iff_eq] at h
  obtain ⟨⟨⟨⟨⟨⟨⟨⟨⟨⟨⟨⟨a1, a2⟩, a3⟩, a4⟩, a5⟩, a6⟩, a7⟩, a8⟩, a9⟩, a10⟩, a11⟩, a12⟩, a13⟩ := h
  have fc : PySem.W.findCls K (.ref D) (.type "type") "__init__" = some (.val (.builtin "ValueError.__init__")) := by
    split at a9
    · rename_i v e
      rw [e, beq_iff_eq.mp a9]
    · cases a9
  refine ⟨⟨ownI_of X a1, a2, ⟨?_, a4⟩, ⟨a5, a6⟩, a7, ⟨a8, fc, a10⟩, mC, mD⟩, ⟨a11, a12, a13⟩⟩
  cases e : PySem.W.clsIn K C with
  | none => rw [e] at a3; simp at a3
  | some cd =>
    rw [e] at a3
    simp only [Option.any_some, Bool.and_eq_true, beq_iff_eq] at a3
    exact ⟨cd, rfl, a3.1, a3.2⟩
section
variable {P : Program} {w : World} {K : PySem.W.Frag} {mg : Str → Option Value} {base : Heap}
theorem num_at {i : Int} (h : 0 ≤ i) : (toString i : Str) = HG.num i.toNat := by
  obtain ⟨m, rfl⟩ : ∃ m : Nat, i = (m : Int) := ⟨i.toNat, by omega⟩
  rfl
def AtV (v : V) : Prop := v = .non ∨ ∃ i : Nat, v = .int (i : Int) ∧ i < 41
def spInit (C : Addr) : Sp := fun vs H Q _ => ∃ a v, vs = [.ref a, v] ∧ H a = some (ExcH a C none) ∧ AtV v ∧ ∀ dx, H dx = none → dx ≠ a → Q .non (upd (upd H a (ExcH a C (some dx))) dx (.xd [("at", v)]))
theorem scInit : FnScope ["self", "at"] ["self", "at"] (defScope sInit) := ⟨rfl, rfl, rfl, by decide +kernel, rfl, by decide +kernel, by decide +kernel⟩
theorem ok_init {k : Nat} {C D fI : Addr} {fd : FuncData} (F : Fun K "__init__" "BadHedge.__init__" sInit fI fd) (B : BadCls K mg base C D fI) : FnOk P w K mg base CX0 (k + 1) fI fd ["self", "at"] (spInit C) := by
  refine F.ok scInit (fun vs H Q E h => ?_) (fun cdv A outer s H vs Q E hr h => ?_)
  · obtain ⟨a, v, rfl, _⟩ := h
    rfl
  obtain ⟨a, v, rfl, ha, hv, q⟩ := h
  refine ⟨_, pss_cons (ps_expr (pe_ini B.own B.ini rfl B.mD (pa_cons (pv 0) (pa_cons (pe_fstr (pj_con (pj_fmt (pv 1) pj_nil))) pa_nil))))
    <| pss_one (ps_xfld B.cls B.no (pv 0) (pv 1) rfl), ?_⟩
  have fmt : ∃ y : Str, FmtV v y ∧ (HG.cs y).length ≤ 4 := by
    rcases hv with rfl | ⟨i, rfl, hi⟩
    · exact ⟨_, rfl, by decide⟩
    · have n1 := (HG.num_free i hi).2
      rw [← HG.cs_len] at n1
      refine ⟨_, ⟨rfl, log_small (by omega) (by omega)⟩, ?_⟩
      show (HG.cs (toString (i : Int) : Str)).length ≤ 4
      rw [num_at (by omega), Int.toNat_natCast]; omega
  obtain ⟨y, hy, yl⟩ := fmt
  have w0 : (HG.cs ("no hedge, wrong at: " : Str)).length = 20 := by decide
  have z1 : (Str.empty ++ ("no hedge, wrong at: " : Str)).length ≤ sizeLine := by
    rw [Str.empty_append, ← HG.cs_len, w0, sizeLine_eq]; omega
  have z2 : (Str.empty ++ ("no hedge, wrong at: " : Str) ++ y).length ≤ sizeLine := by
    rw [Str.empty_append, ← HG.cs_len, HG.cs_app, List.length_append, w0, sizeLine_eq]; omega
  refine ⟨_, rfl, z1, _, rfl, y, hy, z2, z2, a, _, rfl, ha, ?_⟩
  exact ⟨_, rfl, _, rfl, a, rfl, ha, q⟩
structure Pre (K : PySem.W.Frag) (H : Hp) (n : Nat) (ys : List V) (ks : List (Int × Int)) : Prop where
  at_ : ∀ (i : Nat) (k : Int × Int), ks[i]? = some k → ∃ a : Addr, ys[i]? = some (V.ref a) ∧ SqT K H a [.int k.1, .int k.2]
  rod : ∀ k ∈ ks, 0 ≤ k.1 ∧ k.1 < k.2 ∧ k.2 < (n : Int)
  strict : ∀ (i : Nat) (k k' : Int × Int), ks[i]? = some k → ks[i + 1]? = some k' → HG.pkey k < HG.pkey k'
  ring : ∀ (i : Nat) (k : Int × Int), ks[i]? = some k → (HG.homesAt n ks i).getD k.1.toNat 0 ≠ (HG.homesAt n ks i).getD k.2.toNat 0
inductive BadRod (K : PySem.W.Frag) (H : Hp) (n : Nat) (ks : List (Int × Int)) : V → Prop where
  | form {y : V} (h : RodV K H (n : Int) y false) : BadRod K H n ks y
  | order {a : Addr} {k p : Int × Int} {l : List (Int × Int)} (h : SqT K H a [.int k.1, .int k.2]) (hk : 0 ≤ k.1 ∧ k.1 < k.2 ∧ k.2 < (n : Int)) (e : ks = l ++ [p]) (o : HG.pkey k ≤ HG.pkey p) : BadRod K H n ks (.ref a)
  | ring {a : Addr} {k : Int × Int} (h : SqT K H a [.int k.1, .int k.2]) (hk : 0 ≤ k.1 ∧ k.1 < k.2 ∧ k.2 < (n : Int)) (o : ∀ l p, ks = l ++ [p] → HG.pkey p < HG.pkey k)
      (r : (HG.homesAt n ks ks.length).getD k.1.toNat 0 = (HG.homesAt n ks ks.length).getD k.2.toNat 0) : BadRod K H n ks (.ref a)
inductive BadV (K : PySem.W.Frag) (H : Hp) : V → V → Prop where
  | form {x : V} (h : FormV K H x false) : BadV K H x .non
  | rod {t l : Addr} {n : Nat} {ys : List V} {ks : List (Int × Int)} {y : V} (h : SqT K H t [.int (n : Int), .ref l]) (h1 : 1 ≤ n) (h2 : n ≤ 40) (hl : SqL K H l ys) (hn : ys.length + 1 = n) (pre : Pre K H n ys ks) (hy : ys[ks.length]? = some y) (bad : BadRod K H n ks y) : BadV K H (.ref t) (.int (ks.length : Int))
def spChkB (K : PySem.W.Frag) (C : Addr) : Sp := fun vs H _ E => ∃ x v, vs = [x] ∧ BadV K H x v ∧ ∀ dx H', Same H H' → H' dx = some (.xd [("at", v)]) → H dx = none → E (.ref C) (some dx) H'
theorem raise_end {X : Cx} {K : PySem.W.Frag} {C : Addr} {E : XK} {H H1 : Hp} {v : V} {σ : St} {t : TA} {D : Ends} (sm : Same H H1) (hv : AtV v) (hE : ∀ dx H', Same H H' → H' dx = some (.xd [("at", v)]) → H dx = none → E (.ref C) (some dx) H')
    (ht : ∀ Q, Q [v] H1 → t σ H1 Q) : tRaiseX X C E (tMakeX X C (spInit C) t) D σ H1 := by
  refine ht _ ⟨one_line, fun e he hs => ?_⟩
  refine ⟨e, v, rfl, upd_same, hv, fun dx hdx ne => ⟨rfl, e, some dx, rfl, ?_, hs, ?_⟩⟩
  · rw [upd_ne (Ne.symm ne), upd_same]
  · have hdx1 : H1 dx = none := by rw [upd_ne ne] at hdx; exact hdx
    have old : ∀ b, H1 b = none → H b = none := fun b n => by
      cases z : H b with
      | none => rfl
      | some o => rw [sm b o z] at n; cases n
    refine hE dx _ (fun b o q => ?_) (by rw [rem_ne ne, upd_same]) (old dx hdx1)
    have q1 := sm b o q
    have nb : b ≠ e := fun z => by rw [z, he] at q1; cases q1
    have nd : b ≠ dx := fun z => by rw [z, hdx1] at q1; cases q1
    rw [rem_ne nb, upd_ne nd, upd_ne nb, upd_ne nb]
    exact q1
end
end Hd
namespace Hd
open PySem L2
def AccTo (n : Nat) (ks : List (Int × Int)) (i : Nat) : Prop := (∀ (j : Nat) (k : Int × Int), j < i → ks[j]? = some k → 0 ≤ k.1 ∧ k.1 < k.2 ∧ k.2 < (n : Int)) ∧ (∀ (j : Nat) (k k' : Int × Int), j + 1 < i → ks[j]? = some k → ks[j + 1]? = some k' → HG.pkey k < HG.pkey k') ∧
  ∀ (j : Nat) (k : Int × Int), j < i → ks[j]? = some k → (HG.homesAt n ks j).getD k.1.toNat 0 ≠ (HG.homesAt n ks j).getD k.2.toNat 0
structure Acc (n : Nat) (ks : List (Int × Int)) : Prop where
  pos : 1 ≤ n
  most : n ≤ 40
  len : ks.length + 1 = n
  to : AccTo n ks ks.length
theorem homes_to {n : Nat} {ks : List (Int × Int)} {i : Nat} (h : AccTo n ks i) (hi : i ≤ ks.length) : HG.Homes n (HG.homesAt n ks i) := by
  have e : HG.homesAt n (ks.take i) i = HG.homesAt n ks i := by
    unfold HG.homesAt
    rw [List.take_take, Nat.min_self]
  rw [← e]
  refine HG.homesAt_ok (fun k hk => ?_) i (by rw [List.length_take]; omega)
  obtain ⟨j, hj⟩ := List.getElem?_of_mem hk
  have hj' : j < i := by
    have := (List.getElem?_eq_some_iff.mp hj).1
    rw [List.length_take] at this; omega
  rw [List.getElem?_take_of_lt hj'] at hj
  exact h.1 j k hj' hj
section
variable {P : Program} {w : World} {K : PySem.W.Frag} {mg : Str → Option Value} {base : Heap}
def spCk (K : PySem.W.Frag) (C : Addr) : Sp := fun vs H Q E => ∃ (t l : Addr) (n : Nat) (as : List Addr) (ks : List (Int × Int)), vs = [.ref t] ∧ SqT K H t [.int (n : Int), .ref l] ∧ SqL K H l (as.map V.ref) ∧ IsPairs K H as ks ∧ n ≤ 40 ∧ (∀ k ∈ ks, 0 ≤ k.1 ∧ 0 ≤ k.2 ∧ k.2 ≤ 40) ∧
  (Acc n ks → ∀ (t2 l2 : Addr) (H' : Hp), Same H H' → H' t2 = some (.tup [.int (n : Int), .ref l2]) → H' l2 = some (.lst (as.map V.ref)) → Q (.ref t2) H') ∧ (¬ Acc n ks → ∀ dx H', Same H H' → E (.ref C) (some dx) H')
theorem ok_ck {k : Nat} {f ff fr fm C D fI : Addr} {fd df dr dm dI : FuncData} (F : Fun K "checked" "checked" sChecked f fd)
    (GF : FnOk P w K mg base CX0 (k + 1) ff df ["thing"] (spIsF K)) (bF : Binds K df ["thing"] []) (kF : PySem.W.keepIn K (.ref ff) = true) (mF : mg "is_hedge_form" = some (.ref ff))
    (GR : FnOk P w K mg base CX0 (k + 1) fr dr ["thing", "many"] (spIsR K)) (bR : Binds K dr ["thing", "many"] []) (kR : PySem.W.keepIn K (.ref fr) = true) (mR : mg "is_rod" = some (.ref fr))
    (GM : FnOk P w K mg base CX0 (k + 1) fm dm ["homes", "rod"] (spMerged K)) (bM : Binds K dm ["homes", "rod"] []) (kM : PySem.W.keepIn K (.ref fm) = true) (mM : mg "merged" = some (.ref fm))
    (GI : FnOk P w K mg base CX0 k fI dI ["self", "at"] (spInit C)) (bI : Binds K dI ["self", "at"] []) (B : BadCls K mg base C D fI)
    (mls : mg "list" = none) (mr : mg "range" = none) (me : mg "enumerate" = none) : FnOk P w K mg base (CXN P w) (k + 2) f fd ["hedge"] (spCk K C) := by
  refine F.okx scChecked (fun vs H Q E h => ?_) (fun cdv A outer s H vs Q E hr h => ?_)
  · obtain ⟨t, l, n, as, ks, rfl, _⟩ := h
    rfl
  obtain ⟨t, l, n, as, ks, rfl, hT, hL, hpr, n40, hb0, q, hE0⟩ := h
  have hE : ¬ Acc n ks → ∀ (v : V) dx H', Same H H' → H' dx = some (.xd [("at", v)]) → H dx = none → E (.ref C) (some dx) H' := fun na _ dx H' sm _ _ => hE0 na dx H' sm
  have hu := hr.units
  have hu1 : (A.deeper (PyProof.Rows.envOfC "checked" (defScope sChecked) s.heap.objs.size f cdv)).units < cLine := by omega
  refine ⟨_, pss_cons (ps_if (pt_not (pt_val (pe_call GF hr rfl mF kF bF .nil pass0 (pa_cons (pv 0) pa_nil)))) (pss_one (ps_raiseX (xok_def (pc := fun c2 => c2 = some Value.none) (hpc := rfl)) B.own rfl (pe_makeX B.own B.kp GI hr bI rfl B.mC (pa_cons pe_non pa_nil)))) pss_nil)
    <| pss_cons (ps_set (i := 1) scChecked.nd rfl (Or.inl rfl) (pe_ix ix_tup (pv 0) pe_int (fun _ _ => rfl)))
    <| pss_cons (ps_set (i := 2) scChecked.nd rfl (Or.inl rfl) (pe_lst pa_nil))
    <| pss_cons (ps_set (i := 3) scChecked.nd rfl (Or.inl rfl) (pe_list_range rfl rfl mls rfl mr (pv 1)))
    <| pss_cons (ps_for (xok_def (pc := fun c2 => c2 = some Value.none) (hpc := rfl)).own rfl (pi_enum rfl me PyProof.Rows.boot_enumerate (pa_cons (pe_ix ix_tup (pv 0) pe_int (fun _ _ => rfl)) pa_nil)) (pg_tup rfl (pgs_cons (pg_name (i := 4) scChecked.nd rfl (Or.inl rfl)) (pgs_cons (pg_name (i := 5) scChecked.nd rfl (Or.inl rfl)) pgs_nil)))
      (pss_cons (ps_if (pt_not (pt_val (pe_call GR hr rfl mR kR bR .nil pass0 (pa_cons (pv 5) (pa_cons (pv 1) pa_nil))))) (pss_one (ps_raiseX (xok_def (pc := fun c2 => c2 = some Value.none) (hpc := rfl)) B.own rfl (pe_makeX B.own B.kp GI hr bI rfl B.mC (pa_cons (pv 4) pa_nil)))) pss_nil)
      <| pss_cons (ps_mid (ps_if (PW.pt (pw_and (pt_truth (pv 2) (fun _ => rfl)) (pw_and1 (pt_cmpR (op_leT hu1) (pv 5) (pe_ix ix_list (pv 2) (pe_un un_neg pe_int) (fun _ _ => rfl)) (nomark _))))) (pss_one (ps_raiseX (xok_def (pc := fun c2 => c2 = some Value.none) (hpc := rfl)) B.own rfl (pe_makeX B.own B.kp GI hr bI rfl B.mC (pa_cons (pv 4) pa_nil)))) pss_nil))
      <| pss_cons (ps_if (pt_cmpR op_eq (pe_ix ix_list (pv 3) (pe_ix ix_tup (pv 5) pe_int (fun _ _ => rfl)) (fun _ _ => rfl)) (pe_ix ix_list (pv 3) (pe_ix ix_tup (pv 5) pe_int (fun _ _ => rfl)) (fun _ _ => rfl)) (nomark _)) (pss_one (ps_raiseX (xok_def (pc := fun c2 => c2 = some Value.none) (hpc := rfl)) B.own rfl (pe_makeX B.own B.kp GI hr bI rfl B.mC (pa_cons (pv 4) pa_nil)))) pss_nil)
      <| pss_cons (ps_set (i := 3) scChecked.nd rfl (Or.inl rfl) (pe_call GM hr rfl mM kM bM .nil pass0 (pa_cons (pv 3) (pa_cons (pv 5) pa_nil))))
      <| pss_one (ps_expr (pe_bm PySem.F.plainAttrs_list PySem.F.slot_list_append PySem.F.type_list_append mt_append (pv 2) (pa_cons (pv 5) pa_nil)))))
    <| pss_one (ps_ret (pe_tup (pa_cons (pv 1) (pa_cons (pv 2) pa_nil)))), ?_⟩
  have idSame : ∀ H0 : Hp, Same H0 H0 := fun _ _ _ q => q
  have alen : as.length = ks.length := hpr.1
  by_cases n1 : 1 ≤ n
  case neg =>
    refine ⟨_, rfl, _, false, rfl, .range hT (.inl (by omega)), _, rfl, iteT ?_⟩
    exact raise_end (K := K) (idSame H) (.inl rfl) (hE (fun a => n1 a.pos) _) fun _ z => z
  by_cases kl : ks.length + 1 = n
  case neg =>
    have form := FormV.list (K := K) (H := H) hT (by omega) (by omega) hL
    rw [decide_eq_false (by rw [List.length_map]; omega)] at form
    refine ⟨_, rfl, _, false, rfl, form, _, rfl, iteT ?_⟩
    exact raise_end (K := K) (idSame H) (.inl rfl) (hE (fun a => kl a.len) _) fun _ z => z
  have form := FormV.list (K := K) (H := H) hT (by omega) (by omega) hL
  rw [decide_eq_true (by rw [List.length_map]; omega)] at form
  refine ⟨_, rfl, _, true, rfl, form, _, rfl, iteF ?_⟩
  refine ⟨_, rfl, t, _, 0, _, rfl, rfl, hT, rfl, ?_⟩
  refine ⟨line0, fun pr hpr0 => ?_⟩
  refine ⟨_, rfl, n, rfl, by omega, fun ph hph => ?_⟩
  have s1 : Same H (upd H pr (.lst [])) := same_new hpr0 _
  have nrh : pr ≠ ph := ne_of_none upd_same hph
  have s2 := s1.trans (same_new hph (.lst ((List.range n).map fun (i : Nat) => V.int (i : Int))))
  refine ⟨_, rfl, t, _, 1, _, rfl, rfl, same_tup s2 hT, rfl, l, rfl, ⟨_, s2.seq hL⟩, ?_⟩
  refine for_enum (xs := as.map V.ref) (fun i σ H2 => i ≤ ks.length ∧ AccTo n ks i ∧ ∃ h4 s4 s5, σ = [some (.ref t), some (.int (n : Int)), some (.ref pr), some (.ref h4), s4, s5] ∧ Same H H2 ∧ H2 pr = some (.lst ((as.take i).map V.ref)) ∧ H2 h4 = some (.lst (ordV (HG.homesAt n ks i))))
    ⟨by omega, ⟨fun j _ z => absurd z (by omega), fun j _ _ z => absurd z (by omega), fun j _ z => absurd z (by omega)⟩, ph, none, none, rfl, s2, by rw [upd_ne nrh]; exact upd_same, upd_same⟩ (fun i σ H2 _ ⟨_, _, h4, s4, s5, e, sm2, _⟩ => sm2.seq hL) (fun i x σ H2 T hx hP hT2 => ?_) (fun σ H2 hP => ?_)
  · obtain ⟨hij, acc, h4, s4, s5, rfl, sm, hr2, hh2⟩ := hP
    rw [List.getElem?_map] at hx
    cases ha : as[i]? with
    | none => rw [ha] at hx; cases hx
    | some ad =>
      rw [ha] at hx
      obtain rfl : V.ref ad = x := Option.some.inj hx
      have hia : i < as.length := (List.getElem?_eq_some_iff.mp ha).1
      have hik : i < ks.length := by omega
      have hk := List.getElem?_eq_getElem hik
      generalize ks[i] = kk at hk
      have hbk := hb0 kk (List.mem_of_getElem? hk)
      have smT : Same H2 (upd H2 T (.tup [.int (i : Int), .ref ad])) := same_new hT2 _
      have smA := sm.trans smT
      have hr3 := smT _ _ hr2
      have hh3 := smT _ _ hh2
      have hd := hpr.2 i ad kk ha hk
      obtain ⟨ka, kb⟩ := kk
      obtain ⟨u, rfl⟩ : ∃ u : Nat, ka = (u : Int) := ⟨ka.toNat, by have := hbk.1; dsimp only at this; omega⟩
      obtain ⟨v, rfl⟩ : ∃ v : Nat, kb = (v : Int) := ⟨kb.toNat, by have := hbk.2.1; dsimp only at this; omega⟩
      dsimp only at hbk hd
      have had : SqT K (upd H2 T (.tup [.int (i : Int), .ref ad])) ad [.int (u : Int), .int (v : Int)] := same_tup smA hd
      have av : AtV (.int (i : Int)) := .inr ⟨i, rfl, by omega⟩
      have hom := homes_to acc hij
      refine ⟨T, _, rfl, SqT.of upd_same, rfl, _, _, rfl, _, _, rfl, rfl, ?_⟩
      have rv := RodV.nums (K := K) (n := (n : Int)) had
      by_cases hbd : 0 ≤ (u : Int) ∧ (u : Int) < (v : Int) ∧ (v : Int) < (n : Int)
      case neg =>
        rw [decide_eq_false hbd] at rv
        refine ⟨_, rfl, _, rfl, _, _, false, rfl, rv, _, rfl, iteT ?_⟩
        exact raise_end (K := K) smA av (hE (fun a => hbd (a.to.1 i _ hik hk)) _) fun _ z => ⟨_, rfl, z⟩
      rw [decide_eq_true hbd] at rv
      refine ⟨_, rfl, _, rfl, _, _, true, rfl, rv, _, rfl, iteF ?_⟩
      have tkOf : ∀ (i' : Nat) (kp : Int × Int), i = i' + 1 → ks[i']? = some kp → ∃ ap : Addr, as.take i = as.take i' ++ [ap] ∧ SqT K (upd H2 T (.tup [.int (i : Int), .ref ad])) ap [.int kp.1, .int kp.2] := fun i' kp e hkp => by
        have hap := List.getElem?_eq_getElem (show i' < as.length by omega)
        generalize as[i'] = ap at hap
        refine ⟨ap, ?_, same_tup smA (hpr.2 i' _ kp hap hkp)⟩
        rw [e, List.take_add_one, hap]; rfl
      by_cases ho : ∃ (i' : Nat) (kp : Int × Int), i = i' + 1 ∧ ks[i']? = some kp ∧ HG.pkey ((u : Int), (v : Int)) ≤ HG.pkey kp
      case pos =>
        obtain ⟨i', kp, ei, hkp, o⟩ := ho
        obtain ⟨ap, tk, hap2⟩ := tkOf i' kp ei hkp
        have hbp := hb0 kp (List.mem_of_getElem? hkp)
        refine ⟨fun _ _ => False, ?_, fun _ _ z => z.elim⟩
        refine ⟨_, rfl, _, .inl ⟨_, SqL.of hr3, rfl⟩, ?_⟩
        rw [tk, List.map_append] at hr3 ⊢
        have e1 : (!(List.map V.ref (as.take i') ++ List.map V.ref [ap]).isEmpty) = true := by simp
        rw [e1]
        refine iteT ⟨_, rfl, _, rfl, _, rfl, pr, _, _, _, rfl, rfl, SqL.of hr3, atI_last _ _, ad, ap, [(u : Int), (v : Int)], [kp.1, kp.2], rfl, rfl, had, hap2, rfl, _, rfl, ?_⟩
        rw [lex_pkey (a := ((u : Int), (v : Int))) ⟨by dsimp only; omega, by dsimp only; omega⟩ ⟨by omega, by omega⟩, decide_eq_true o]
        refine iteT ?_
        exact raise_end (K := K) smA av (hE (fun a => by
          have z := a.to.2.1 i' kp ((u : Int), (v : Int)) (by omega) hkp (by rw [← ei]; exact hk)
          omega) _) fun _ z => ⟨_, rfl, z⟩
      refine ⟨fun σ' H' => upd H2 T (.tup [.int (i : Int), .ref ad]) = H' ∧ σ' = [some (.ref t), some (.int (n : Int)), some (.ref pr), some (.ref h4), some (.int (i : Int)), some (.ref ad)], ?_, fun σ' H' hP => ?_⟩
      · refine ⟨_, rfl, _, .inl ⟨_, SqL.of hr3, rfl⟩, ?_⟩
        cases i with
        | zero => exact iteF (iteF ⟨rfl, rfl⟩)
        | succ i =>
          have hkp := List.getElem?_eq_getElem (show i < ks.length by omega)
          generalize ks[i] = kp at hkp
          obtain ⟨ap, tk, hap2⟩ := tkOf i kp rfl hkp
          have hbp := hb0 kp (List.mem_of_getElem? hkp)
          have st : ¬ HG.pkey ((u : Int), (v : Int)) ≤ HG.pkey kp := fun z => ho ⟨i, kp, rfl, hkp, z⟩
          rw [tk, List.map_append] at hr3 ⊢
          have e1 : (!(List.map V.ref (as.take i) ++ List.map V.ref [ap]).isEmpty) = true := by simp
          rw [e1]
          refine iteT ⟨_, rfl, _, rfl, _, rfl, pr, _, _, _, rfl, rfl, SqL.of hr3, atI_last _ _, ad, ap, [(u : Int), (v : Int)], [kp.1, kp.2], rfl, rfl, had, hap2, rfl, _, rfl, ?_⟩
          rw [lex_pkey (a := ((u : Int), (v : Int))) ⟨by dsimp only; omega, by dsimp only; omega⟩ ⟨by omega, by omega⟩, decide_eq_false st]
          exact iteF ⟨rfl, rfl⟩
      obtain ⟨rfl, rfl⟩ := hP
      refine ⟨_, rfl, _, rfl, ad, _, 0, _, rfl, rfl, had, rfl, h4, _, _, _, rfl, rfl, SqL.of hh3, ord_nat (x := u) (by rw [hom.1]; omega), _, rfl, _, rfl, ad, _, 1, _, rfl, rfl, had, rfl, h4, _, _, _, rfl, rfl, SqL.of hh3, ord_nat (x := v) (by rw [hom.1]; omega), rfl, _, rfl, ?_⟩
      by_cases ring : (HG.homesAt n ks i).getD u 0 = (HG.homesAt n ks i).getD v 0
      case pos =>
        rw [decide_eq_true (by rw [ring])]
        refine iteT ?_
        exact raise_end (K := K) smA av (hE (fun a => a.to.2.2 i _ hik hk (by dsimp only; rw [Int.toNat_natCast, Int.toNat_natCast]; exact ring)) _) fun _ z => ⟨_, rfl, z⟩
      rw [decide_eq_false (fun z => ring (by injection z with z; omega))]
      refine iteF ?_
      refine ⟨_, rfl, _, rfl, h4, ad, HG.homesAt n ks i, u, v, rfl, SqL.of hh3, had, by rw [hom.1]; omega, by rw [hom.1]; omega, by rw [hom.1]; omega, fun pm hpm => ?_⟩
      have smM := same_new hpm (.lst (ordV (HG.mergeL (HG.homesAt n ks i) u v)))
      have hr4 := smM _ _ hr3
      have nmr : pm ≠ pr := fun e => by subst e; rw [hr3] at hpm; cases hpm
      refine ⟨_, rfl, .inl ⟨rfl, _, SqL.of hr4⟩, _, rfl, pr, _, _, rfl, rfl, hr4, small1000 (by rw [List.length_map, List.length_take]; omega), ?_⟩
      refine ⟨hik, ⟨fun j k' hj hk' => ?_, fun j k' k'' hj hk' hk'' => ?_, fun j k' hj hk' => ?_⟩, pm, _, _, rfl, (smA.trans smM).put hpr0 _, ?_, ?_⟩
      · rcases Nat.lt_or_ge j i with z | z
        · exact acc.1 j k' z hk'
        · obtain rfl : j = i := by omega
          rw [hk] at hk'
          obtain rfl := Option.some.inj hk'
          exact hbd
      · rcases Nat.lt_or_ge (j + 1) i with z | z
        · exact acc.2.1 j k' k'' z hk' hk''
        · obtain rfl : j + 1 = i := by omega
          rw [hk] at hk''
          obtain rfl := Option.some.inj hk''
          exact Int.not_le.mp fun z => ho ⟨j, k', rfl, hk', z⟩
      · rcases Nat.lt_or_ge j i with z | z
        · exact acc.2.2 j k' z hk'
        · obtain rfl : j = i := by omega
          rw [hk] at hk'
          obtain rfl := Option.some.inj hk'
          dsimp only
          rw [Int.toNat_natCast, Int.toNat_natCast]
          exact ring
      · rw [upd_same, List.take_add_one, ha, List.map_append]; rfl
      · rw [upd_ne nmr, upd_same, HG.homesAt_succ hk]; rfl
  · obtain ⟨_, acc, h4, s4, s5, rfl, sm, hr2, hh2⟩ := hP
    have la : (as.map V.ref).length = ks.length := by rw [List.length_map]; exact alen
    rw [la] at acc
    have et : as.take (as.map V.ref).length = as := List.take_of_length_le (by rw [List.length_map]; exact Nat.le_refl _)
    rw [et] at hr2
    refine ⟨_, rfl, _, rfl, line2, fun t2 ht2 => ?_⟩
    have ne : pr ≠ t2 := ne_of_none hr2 ht2
    exact q ⟨n1, n40, kl, acc⟩ t2 pr _ (sm.trans (same_new ht2 _)) upd_same (by rw [upd_ne ne]; exact hr2)
end
end Hd
namespace HG
open PySem
theorem join_le {y : Str} : ∀ {l : List Str} {x : Str}, x ∈ l → x.length ≤ (Str.join y l).length
  | [], _, h => nomatch h
  | [a], x, h => by
    rw [List.mem_singleton.mp h]; exact Nat.le_refl _
  | a :: b :: l, x, h => by
    rw [join_cons2, ← cs_len, ← cs_len, cs_app, cs_app, List.length_append, List.length_append]
    rcases List.mem_cons.mp h with rfl | h
    · omega
    · have := join_le (y := y) h
      rw [← cs_len, ← cs_len] at this
      omega
theorem split_le {z w : Str} (h : w ∈ Txt.split z blank) : w.length ≤ z.length := by
  have := join_le (y := blank) h
  rw [StrLaws.join_split] at this
  exact this
theorem split_pos (z y : Str) : ∃ w ws, Txt.split z y = w :: ws := by
  unfold Txt.split
  split
  · exact ⟨_, _, rfl⟩
  · split
    · exact ⟨_, _, rfl⟩
    · have : 0 < (PySem.Builtin.Str.partsBetween z (PySem.Builtin.Str.occurrences z y 0 z.length (z.length + 1)) y.length).length := by
        rw [length_partsBetween]; omega
      cases e : PySem.Builtin.Str.partsBetween z (PySem.Builtin.Str.occurrences z y 0 z.length (z.length + 1)) y.length with
      | nil => rw [e] at this; simp at this
      | cons w ws => exact ⟨w, ws, rfl⟩
theorem word_inj {k k' : Nat × Nat} (h : k.1 < 41 ∧ k.2 < 41) (h' : k'.1 < 41 ∧ k'.2 < 41) (e : word k = word k') : k = k' := by
  obtain ⟨p1, p2⟩ := part_word h
  obtain ⟨q1, q2⟩ := part_word h'
  rw [e] at p1 p2
  have e1 := num_inj _ h.1 _ h'.1 (p1.symm.trans q1)
  have e2 := num_inj _ h.2 _ h'.2 (p2.symm.trans q2)
  exact Prod.ext e1 e2
theorem words_inj : ∀ {l l' : List (Nat × Nat)}, (∀ k ∈ l, k.1 < 41 ∧ k.2 < 41) → (∀ k ∈ l', k.1 < 41 ∧ k.2 < 41) → l.map word = l'.map word → l = l'
  | [], [], _, _, _ => rfl
  | [], _ :: _, _, _, e => by simp at e
  | _ :: _, [], _, _, e => by simp at e
  | a :: l, b :: l', h, h', e => by
    rw [List.map_cons, List.map_cons] at e
    rw [word_inj (h a List.mem_cons_self) (h' b List.mem_cons_self) (List.cons.inj e).1, words_inj (fun k hk => h k (List.mem_cons_of_mem _ hk)) (fun k hk => h' k (List.mem_cons_of_mem _ hk)) (List.cons.inj e).2]
end HG
namespace Hd
open PySem L2
def zN (ks : List (Nat × Nat)) : List (Int × Int) := ks.map fun k => ((k.1 : Int), (k.2 : Int))
theorem natK_zN (ks : List (Nat × Nat)) : natK (zN ks) = ks := by
  unfold natK zN
  rw [List.map_map]
  exact (List.map_congr_left fun k _ => by rfl).trans (List.map_id ks)
theorem zN_get {ks : List (Nat × Nat)} {j : Nat} {k : Nat × Nat} (h : ks[j]? = some k) : (zN ks)[j]? = some ((k.1 : Int), (k.2 : Int)) := by
  unfold zN; rw [List.getElem?_map, h]; rfl
theorem zN_len (ks : List (Nat × Nat)) : (zN ks).length = ks.length := by unfold zN; rw [List.length_map]
theorem Acc.rod {n : Nat} {ks : List (Nat × Nat)} (a : Acc n (zN ks)) : ∀ k ∈ ks, k.1 < k.2 ∧ k.2 < n := fun k hk => by
  obtain ⟨j, hj⟩ := List.getElem?_of_mem hk
  have hl := (List.getElem?_eq_some_iff.mp hj).1
  have := a.to.1 j _ (by rw [zN_len]; exact hl) (zN_get hj)
  dsimp only at this
  omega
def Good (z : Str) : Prop := ∃ (n : Nat) (ks : List (Nat × Nat)), Acc n (zN ks) ∧ z = HG.row n ks
theorem Good.split {z : Str} {n : Nat} {ks : List (Nat × Nat)} (a : Acc n (zN ks)) (e : z = HG.row n ks) : Txt.split z (" " : Str) = HG.num n :: ks.map HG.word := by
  rw [e]
  have m := a.most
  exact HG.split_row (by omega) fun k hk => by have := a.rod k hk; omega
section
variable {P : Program} {w : World} {K : PySem.W.Frag} {mg : Str → Option Value} {base : Heap}
def spNR (C : Addr) : Sp := fun vs H Q E => ∃ z : Str, vs = [.str z] ∧ (∀ m : Nat, m < 41 → z = HG.num m → ∀ H', Same H H' → Q (.int (m : Int)) H') ∧ ((∀ m : Nat, m < 41 → z ≠ HG.num m) → ∀ H', Same H H' → E (.ref C) none H')
theorem numV_out {z : Str} (h : ∀ m : Nat, m < 41 → z ≠ HG.num m) : inV (.str z) numV = false := by
  cases e : inV (.str z) numV with
  | false => rfl
  | true =>
    unfold inV at e
    rw [List.any_eq_true] at e
    obtain ⟨y, hy, ey⟩ := e
    unfold numV at hy
    obtain ⟨m, hm, rfl⟩ := List.mem_map.mp hy
    rw [eqV_str] at ey
    exact absurd (beq_iff_eq.mp ey).symm (h m (List.mem_range.mp hm))
theorem ok_nr {k : Nat} {f C D : Addr} {fd : FuncData} (F : Fun K "number_read" "number_read" sNRead f fd) (B : PlainCls K mg base "BadText" "HedgeError" C D) (mst : mg "str" = none) (mr : mg "range" = none) {tk : Tok} (mM : mg "MOST_KNOTS" = some (.int 40 tk)) : FnOk P w K mg base (CXH P w) (k + 1) f fd ["word"] (spNR C) := by
  refine F.okx scNRead (fun vs H Q E h => ?_) (fun cdv A outer s H vs Q E hr h => ?_)
  · obtain ⟨m, rfl, _⟩ := h
    rfl
  obtain ⟨z, rfl, q, hE⟩ := h
  refine ⟨_, pss_cons (ps_comp (own := ["number"]) (i := 1) scNRead.nd rfl (Or.inl rfl) rfl (compSc rfl) (pi_range1 rfl mr (pa_cons (pe_op op_add (pe_glob (v := .int 40) rfl mM ⟨_, rfl⟩) pe_int) pa_nil)) (fun b => pg_name (i := 0) ndNRead rfl (Or.inl rfl)) (fun b => own_name (by decide)) (fun b => pf_nil)
      (fun b => pe_callTy call_str_int rfl mst PyProof.Rows.boot_str (pa_cons (pv 0) pa_nil)))
    <| pss_cons (ps_if (pt_cmpR op_notIn_seq (pv 0) (pv 1) (by with_unfolding_all rfl)) (pss_one (ps_raise (xok_def (pc := fun _ => True)) B.own rfl rfl (pa_cons pe_str pa_nil))) pss_nil)
    <| pss_one (ps_ret (pe_bm PySem.F.plainAttrs_list PySem.F.slot_list_index PySem.F.type_list_index mt_index (pv 1) (pa_cons (pv 0) pa_nil))), ?_⟩
  refine ⟨_, _, rfl, rfl, 41, rfl, by decide, by decide, ?_⟩
  refine comp_range (lo := 0) (n := 41) (fun i acc H' => H' = H ∧ acc = numV.take i) ⟨rfl, rfl⟩ (by decide) (fun i acc H' _ ⟨_, e⟩ => by rw [e, List.length_take]; omega) (fun i acc H' b hi hp R hR => ?_) (fun acc H' hp p hpn => ?_)
  · obtain ⟨rfl, rfl⟩ := hp
    refine gn_yes ?_
    refine ⟨_, rfl, _, rfl, log_small (by omega) (by omega), hR _ _ ⟨rfl, ?_⟩⟩
    rw [List.take_add_one, numV_get hi, num_of (by omega)]
    have e : (0 + (i : Int)).toNat = i := by omega
    rw [e]; rfl
  · obtain ⟨rfl, rfl⟩ := hp
    have e : numV.take 41 = numV := List.take_of_length_le (by unfold numV; simp)
    rw [e]
    refine ⟨_, rfl, _, rfl, p, numV, rfl, .inl (SqL.of upd_same), rfl, numV_flat, _, rfl, ?_⟩
    by_cases hz : ∃ m : Nat, m < 41 ∧ z = HG.num m
    · obtain ⟨m, hm, rfl⟩ := hz
      rw [numV_in hm]
      refine iteF ?_
      refine ⟨_, rfl, .inl ⟨rfl, _, SqL.of upd_same⟩, _, rfl, p, numV, _, m, rfl, rfl, SqL.of upd_same, rfl, numV_flat, ⟨_, numV_get hm, by rw [eqV_str]; exact beq_self_eq_true _⟩, fun j z hj hz => ?_, q m hm rfl _ (same_new hpn _)⟩
      rw [numV_get (by omega)] at hz
      obtain rfl := Option.some.inj hz
      rw [eqV_str]
      cases e : HG.num j == HG.num m with
      | false => rfl
      | true =>
        have := HG.num_inj j (by omega) m hm (beq_iff_eq.mp e)
        omega
    · have hz' : ∀ m : Nat, m < 41 → z ≠ HG.num m := fun m hm e => hz ⟨m, hm, e⟩
      rw [numV_out hz']
      exact iteT ⟨one_line, hE hz' _ (same_new hpn _)⟩
def spRR (C : Addr) : Sp := fun vs H Q E => ∃ z : Str, vs = [.str z] ∧ z.length ≤ sizeLine ∧ (∀ k : Nat × Nat, k.1 < 41 ∧ k.2 < 41 → z = HG.word k → ∀ (p : Addr) (H' : Hp), Same H H' → H' p = some (.tup [.int (k.1 : Int), .int (k.2 : Int)]) → Q (.ref p) H') ∧
  ((∀ k : Nat × Nat, k.1 < 41 ∧ k.2 < 41 → z ≠ HG.word k) → ∀ H', Same H H' → E (.ref C) none H')
theorem ok_rr {k : Nat} {f fn C : Addr} {fd dn : FuncData} (F : Fun K "rod_read" "rod_read" sRRead f fd) (GN : FnOk P w K mg base (CXH P w) k fn dn ["word"] (spNR C)) (bN : Binds K dn ["word"] []) (kN : PySem.W.keepIn K (.ref fn) = true) (mN : mg "number_read" = some (.ref fn)) : FnOk P w K mg base (CXH P w) (k + 1) f fd ["word"] (spRR C) := by
  refine F.okx scRRead (fun vs H Q E h => ?_) (fun cdv A outer s H vs Q E hr h => ?_)
  · obtain ⟨m, rfl, _⟩ := h
    rfl
  obtain ⟨z, rfl, zl, q, hE⟩ := h
  refine ⟨_, pss_cons (ps_set (i := 1) scRRead.nd rfl (Or.inl rfl) (pe_bm PySem.F.plainAttrs_str PySem.F.slot_str_partition PySem.F.type_str_partition mt_partition (pv 0) (pa_cons pe_str pa_nil)))
    <| pss_one (ps_ret (pe_tup (pa_cons (pe_call GN hr rfl mN kN bN .nil (xok_def (pc := fun _ => True)).pass (pa_cons (pe_ix ix_tup (pv 1) pe_int (fun _ _ => rfl)) pa_nil)) (pa_cons (pe_call GN hr rfl mN kN bN .nil (xok_def (pc := fun _ => True)).pass (pa_cons (pe_ix ix_tup (pv 1) pe_int (fun _ _ => rfl)) pa_nil)) pa_nil)))), ?_⟩
  refine ⟨_, rfl, rfl, _, _, rfl, rfl, by decide +kernel, zl, fun p hp => ?_⟩
  rw [partV_eq]
  have pw : ∀ k : Nat × Nat, k.1 < 41 ∧ k.2 < 41 → z = HG.word k → (Txt.partition z ("-" : Str)).1 = HG.num k.1 ∧ (Txt.partition z ("-" : Str)).2.2 = HG.num k.2 := fun k hk e => by rw [e]; exact HG.part_word hk
  refine ⟨_, rfl, p, _, 0, _, rfl, rfl, SqT.of upd_same, rfl, _, rfl, fun m1 h1 e1 H1 sm1 => ?_, fun no H1 sm1 => hE (fun k hk e => no k.1 hk.1 (pw k hk e).1) H1 ((same_new hp _).trans sm1)⟩
  refine ⟨_, rfl, p, _, 2, _, rfl, rfl, same_tup sm1 (SqT.of upd_same), rfl, _, rfl, fun m2 h2 e2 H2 sm2 => ?_, fun no H2 sm2 => hE (fun k hk e => no k.2 hk.2 (pw k hk e).2) H2 ((same_new hp _).trans (sm1.trans sm2))⟩
  refine ⟨line2, fun r hr' => ?_⟩
  exact q (m1, m2) ⟨h1, h2⟩ (HG.word_of h2 e1 e2) r _ ((same_new hp _).trans (sm1.trans (sm2.trans (same_new hr' _)))) upd_same
inductive TxV (K : PySem.W.Frag) (H : Hp) : V → Bool → Prop where
  | kind {x : V} {k : Kn} (h : Kd K H x k) (ne : k ≠ .str) : TxV K H x false
  | bad {z : Str} (h : z.length ≤ 900) (n : ¬ Good z) : TxV K H (.str z) false
  | good {z : Str} (h : z.length ≤ 900) (n : Good z) : TxV K H (.str z) true
def spRd (K : PySem.W.Frag) (C : Addr) : Sp := fun vs H Q E => ∃ x b, vs = [x] ∧ TxV K H x b ∧
  (b = true → ∀ (t l : Addr) (n : Nat) (ks : List (Nat × Nat)) (as : List Addr) (H' : Hp), Same H H' → x = .str (HG.row n ks) → Acc n (zN ks) → H' t = some (.tup [.int (n : Int), .ref l]) → H' l = some (.lst (as.map V.ref)) → IsPairs K H' as (zN ks) → Q (.ref t) H') ∧
  (b = false → ∀ H', Same H H' → E (.ref C) none H')
theorem cut_one (w0 : Str) (ws : List Str) : cutV ((w0 :: ws).map V.str) (some 1) none = ws.map V.str := by
  unfold cutV
  rw [List.map_cons]
  have e1 : HT.sIx (V.str w0 :: ws.map V.str).length 0 (some 1) = 1 := by unfold HT.sIx; simp
  have e2 : HT.sIx (V.str w0 :: ws.map V.str).length (V.str w0 :: ws.map V.str).length none = (V.str w0 :: ws.map V.str).length := rfl
  rw [e1, e2, List.drop_succ_cons, List.drop_zero]
  exact List.take_of_length_le (by simp)
theorem ok_rd {k : Nat} {f fn fr fc C D CB fI : Addr} {fd dn dr dc : FuncData} (F : Fun K "read" "read" sRead f fd) (B : PlainCls K mg base "BadText" "HedgeError" C D) (BB : BadCls K mg base CB D fI) (TB : Takes K CB D)
    (GN : FnOk P w K mg base (CXH P w) k fn dn ["word"] (spNR C)) (bN : Binds K dn ["word"] []) (kN : PySem.W.keepIn K (.ref fn) = true) (mN : mg "number_read" = some (.ref fn))
    (GR : FnOk P w K mg base (CXH P w) k fr dr ["word"] (spRR C)) (bR : Binds K dr ["word"] []) (kR : PySem.W.keepIn K (.ref fr) = true) (mR : mg "rod_read" = some (.ref fr))
    (GC : FnOk P w K mg base (CXN P w) k fc dc ["hedge"] (spCk K CB)) (bC : Binds K dc ["hedge"] []) (kC : PySem.W.keepIn K (.ref fc) = true) (mC : mg "checked" = some (.ref fc))
    (mi : mg "isinstance" = none) (mst : mg "str" = none) : FnOk P w K mg base (CXH P w) (k + 1) f fd ["text"] (spRd K C) := by
  refine F.okx scRead (fun vs H Q E h => ?_) (fun cdv A outer s H vs Q E hr h => ?_)
  · obtain ⟨x, b, rfl, _⟩ := h
    rfl
  obtain ⟨x, b, rfl, hv, hq, hE⟩ := h
  refine ⟨_, pss_cons (ps_if (pt_not (pt_val (pe_callB call_isK rfl mi PyProof.Rows.boot_isinstance (pa_cons (pv 0) (pa_cons (pe_bltn (v := .ty "str") rfl mst PyProof.Rows.boot_str rfl) pa_nil))))) (pss_one (ps_raise (xok_def (pc := fun _ => True)) B.own rfl rfl (pa_cons pe_str pa_nil))) pss_nil)
    <| pss_cons (ps_set (i := 1) scRead.nd rfl (Or.inl rfl) (pe_bm PySem.F.plainAttrs_str PySem.F.slot_str_split PySem.F.type_str_split mt_split (pv 0) (pa_cons pe_str pa_nil)))
    <| pss_cons (ps_set (i := 2) scRead.nd rfl (Or.inl rfl) (pe_call GN hr rfl mN kN bN .nil (xok_def (pc := fun _ => True)).pass (pa_cons (pe_ix ix_list (pv 1) pe_int (fun _ _ => rfl)) pa_nil)))
    <| pss_cons (ps_compX (pc := fun _ => True) (EE := E) (own := ["word"]) (i := 3) scRead.nd rfl (Or.inl rfl) rfl defx (compSc rfl) (pi_list (pe_slice sl_list (pv 1) (po_some pe_int) po_none)) (fun b => pg_name (i := 0) ndRead rfl (Or.inl rfl)) (fun b => own_name (by decide)) (fun b => pf_nil)
      (fun b => pe_call GR hr rfl mR kR bR .nil pass_blockX (pa_cons (pv 0) pa_nil)))
    <| pss_one (ps_try fun pins D => pss_one (ps_ret (pe_call GC hr rfl mC kC bC .nil (catch_from pins D rfl rfl BB.mC (fun a => PassesOwnAt.leaving) (fun a o ok h2 => pss_one (ps_raise_from fromok_def ok h2 B.own rfl (pa_cons pe_str pa_nil))))
      (pa_cons (pe_tup (pa_cons (pv 2) (pa_cons (pv 3) pa_nil))) pa_nil)))), ?_⟩
  have e24 := sizeLine_eq
  have one1 : ∀ z : V, [z].length ≤ sizeLine := fun z => one_line
  have key : (∃ kd, Kd K H x kd ∧ kd ≠ .str ∧ ∀ H', Same H H' → E (.ref C) none H') ∨ ∃ z : Str, x = .str z ∧ z.length ≤ 900 ∧ (∀ (t l : Addr) (n : Nat) (ks : List (Nat × Nat)) (as : List Addr) (H' : Hp), Same H H' → z = HG.row n ks → Acc n (zN ks) → H' t = some (.tup [.int (n : Int), .ref l]) → H' l = some (.lst (as.map V.ref)) → IsPairs K H' as (zN ks) → Q (.ref t) H') ∧
      (¬ Good z → ∀ H', Same H H' → E (.ref C) none H') := by
    cases hv with
    | @kind _ kd h ne => exact .inl ⟨kd, h, ne, hE rfl⟩
    | @bad z zl n => exact .inr ⟨z, rfl, zl, fun t l n' ks as H' sm e a _ _ _ => absurd ⟨n', ks, a, e⟩ n, fun _ => hE rfl⟩
    | @good z zl n => exact .inr ⟨z, rfl, zl, fun t l n' ks as H' sm e a h1 h2 h3 => hq rfl t l n' ks as H' sm (by rw [e]) a h1 h2 h3, fun z => absurd n z⟩
  clear hv hq hE b
  rcases key with ⟨kd, h, ne, hE⟩ | ⟨z, rfl, zl, HQ, HE⟩
  · refine ⟨_, rfl, x, .str, kd, rfl, h, _, rfl, ?_⟩
    have : isB kd .str = false := by cases kd <;> first | rfl | exact absurd rfl ne
    rw [this]
    exact iteT ⟨one1 _, hE H (Same.refl _)⟩
  refine ⟨_, rfl, _, .str, .str, rfl, .str _, _, rfl, iteF ?_⟩
  refine ⟨_, rfl, rfl, _, _, rfl, rfl, by decide +kernel, by omega, fun p hp => ?_⟩
  obtain ⟨w0, ws, es⟩ := HG.split_pos z (" " : Str)
  have sl := split_len z (" " : Str)
  have wle : ∀ w ∈ Txt.split z (" " : Str), w.length ≤ z.length := fun w hw => HG.split_le hw
  rw [es] at sl wle ⊢
  rw [List.length_cons] at sl
  refine ⟨_, rfl, p, _, 0, _, rfl, rfl, SqL.of upd_same, atI_nat (j := 0) rfl, w0, rfl, fun n hn ew H1 sm1 => ?_, fun no H1 sm1 => HE (fun ⟨n, ks, a, e⟩ => ?_) H1 ((same_new hp _).trans sm1)⟩
  case refine_2 =>
    have := Good.split a e
    rw [es] at this
    have m := a.most
    exact no n (by omega) (List.cons.inj this).1
  subst ew
  have hp1 := sm1 _ _ (show upd H p (.lst ((HG.num n :: ws).map V.str)) p = _ from upd_same)
  refine ⟨_, rfl, 1, rfl, p, _, rfl, SqL.of hp1, fun pc hpc => ?_⟩
  rw [cut_one]
  have smc := same_new hpc (.lst (ws.map V.str))
  refine ⟨pc, rfl, ⟨_, SqL.of upd_same⟩, ?_⟩
  have sm01 := (same_new hp _).trans (sm1.trans smc)
  refine comp_list (xs := ws.map V.str) (fun i acc H2 => Same (upd H1 pc (.lst (ws.map V.str))) H2 ∧ ∃ (as : List Addr) (ks : List (Nat × Nat)), acc = as.map V.ref ∧ as.length = i ∧ IsPairs K H2 as (zN ks) ∧ ks.map HG.word = ws.take i ∧ ∀ k ∈ ks, k.1 < 41 ∧ k.2 < 41)
    ⟨Same.refl _, [], [], rfl, rfl, ⟨rfl, fun i a k z => by simp at z⟩, by simp, fun k hk => by cases hk⟩ (by rw [List.length_map]; omega) (fun i acc H2 hi ⟨sm, as, ks, e, hl, _⟩ => ⟨by rw [e, List.length_map, hl]; exact Nat.le_refl _, sm.seq (SqL.of upd_same)⟩) (fun i x acc H2 b hx ⟨sm, as, ks, e, hl, hpr, hw, hb⟩ R hR => ?_) (fun acc H2 ⟨sm, as, ks, e, hl, hpr, hw, hb⟩ pr hprn => ?_)
  · rw [List.getElem?_map] at hx
    cases hk : ws[i]? with
    | none => rw [hk] at hx; cases hx
    | some w1 =>
      rw [hk] at hx
      obtain rfl : V.str w1 = x := Option.some.inj hx
      have wl := wle w1 (List.mem_cons_of_mem _ (List.mem_of_getElem? hk))
      refine gn_yes ?_
      refine ⟨_, rfl, w1, rfl, by omega, fun kk hkk ew a H3 sm3 ha => ?_, fun no H3 sm3 => HE (fun ⟨n', ks', a, e'⟩ => ?_) H3 (sm01.trans (sm.trans sm3))⟩
      · have e2 : as.map V.ref ++ [V.ref a] = (as ++ [a]).map V.ref := by simp
        subst e
        show R (as.map V.ref ++ [V.ref a]) H3
        rw [e2]
        have ez : zN (ks ++ [kk]) = zN ks ++ [((kk.1 : Int), (kk.2 : Int))] := by unfold zN; rw [List.map_append]; rfl
        refine hR _ _ ⟨sm.trans sm3, as ++ [a], ks ++ [kk], rfl, by simp [hl], ?_, ?_, fun k hk' => ?_⟩
        · rw [ez]
          exact pairs_snoc (same_pairs sm3 hpr) (.inl (.inl ha))
        · rw [List.map_append, hw, List.take_add_one, hk, ew]; rfl
        · rcases List.mem_append.mp hk' with y | y
          · exact hb k y
          · rw [List.mem_singleton.mp y]; exact hkk
      · have sp := Good.split a e'
        rw [es] at sp
        have sp2 := (List.cons.inj sp).2
        rw [sp2, List.getElem?_map] at hk
        cases hk2 : ks'[i]? with
        | none => rw [hk2] at hk; cases hk
        | some kk =>
          rw [hk2] at hk
          have rd := a.rod kk (List.mem_of_getElem? hk2)
          have m := a.most
          exact no kk ⟨by omega, by omega⟩ (Option.some.inj hk).symm
  · subst e
    have ew : ws.take (ws.map V.str).length = ws := List.take_of_length_le (by rw [List.length_map]; exact Nat.le_refl _)
    rw [ew] at hw
    have smr := same_new hprn (.lst (as.map V.ref))
    refine ⟨_, rfl, _, rfl, line2, fun pt hpt => ?_⟩
    have smt := same_new hpt (.tup [V.int (n : Int), V.ref pr])
    have smAll := sm01.trans (sm.trans (smr.trans smt))
    have hpr' := same_pairs (smr.trans smt) hpr
    refine ⟨pt, pr, n, as, zN ks, rfl, SqT.of upd_same, smt.seq (SqL.of upd_same), hpr', by omega, fun k hk => ?_, fun a t2 l2 H' sm' ht2 hl2 => ?_, fun na dx H' sm' => ⟨TB.own, fun σ _ _ _ _ _ => ⟨one1 _, HE (fun ⟨n', ks', a, e'⟩ => ?_) H' (smAll.trans sm')⟩⟩⟩
    · unfold zN at hk
      obtain ⟨k0, hk0, rfl⟩ := List.mem_map.mp hk
      have := hb k0 hk0
      dsimp only
      omega
    · refine HQ t2 l2 n ks as H' (smAll.trans sm') ?_ a ht2 hl2 (same_pairs sm' hpr')
      exact HG.row_of (by rw [hw]; exact es)
    · have sp := Good.split a e'
      rw [es] at sp
      have m := a.most
      have en := HG.num_inj n hn n' (by omega) (List.cons.inj sp).1
      have ek : ks = ks' := HG.words_inj hb (fun k hk => by have := a.rod k hk; omega) (hw.trans (List.cons.inj sp).2)
      subst en ek
      exact na a
end
end Hd
namespace L2
open PySem PySem.Spec PyProof.Rows
section
variable {X : Cx}
def rFind3 : V → List V → Hp → VK → Prop := fun x vs H Q => ∃ (z y : Str) (i : Int), x = .str z ∧ vs = [.str y, .int i] ∧ Q (.int (Txt.find3 z y i)) H
theorem mt_find3 : MtR X "str.find" rFind3 := by
  intro pins s σ H x vs v us Q I rx rv h
  obtain ⟨z, y, i, rfl, rfl, q⟩ := h
  obtain ⟨t, rfl⟩ := rx
  obtain ⟨u1, u2, rfl, ⟨t1, rfl⟩, ⟨t2, rfl⟩⟩ := vals2 rv
  exact SC.find3 ⟨.int _, H, I.tok _, ⟨_, rfl⟩, q⟩
end
end L2
namespace Hd
open PySem L2
abbrev sRefd : Stmt := top 22
abbrev sByB : Stmt := top 23
abbrev sNone : Stmt := top 24
abbrev sSpo : Stmt := top 25
abbrev sLaw : Stmt := top 26
theorem line_small {n : Nat} (h : n ≤ 1000) : n ≤ sizeLine := Nat.le_of_lt (small1000 h)
theorem pick {c : Int} {k : Nat} (hk : 0 < k) : ∃ j : Nat, c % (k : Int) = (j : Int) ∧ j < k := by
  have h1 := Int.emod_nonneg c (show (k : Int) ≠ 0 by omega)
  have h2 := Int.emod_lt_of_pos c (show (0 : Int) < k by omega)
  exact ⟨(c % (k : Int)).toNat, by omega, by omega⟩
theorem cut_strs (W : List Str) (a b : Option Int) : ∃ W' : List Str, cutV (W.map V.str) a b = W'.map V.str ∧ (W'.map (·.length)).sum ≤ (W.map (·.length)).sum ∧ W'.length ≤ W.length := by
  refine ⟨(W.drop (HT.sIx (W.map V.str).length 0 a)).take (HT.sIx (W.map V.str).length (W.map V.str).length b - HT.sIx (W.map V.str).length 0 a), ?_, ?_, ?_⟩
  · unfold cutV
    rw [List.map_take, List.map_drop]
  · generalize HT.sIx (W.map V.str).length 0 a = i
    generalize HT.sIx (W.map V.str).length (W.map V.str).length b - i = j
    have h1 := congrArg List.sum (List.take_append_drop i (W.map (·.length)))
    have h2 := congrArg List.sum (List.take_append_drop j ((W.map (·.length)).drop i))
    rw [List.sum_append] at h1 h2
    rw [List.map_take, List.map_drop]
    omega
  · rw [List.length_take, List.length_drop]; omega
theorem join_len (ys : List Str) : (Txt.join (" " : Str) ys).length ≤ (ys.map (·.length)).sum + ys.length := by
  have e : Txt.join (" " : Str) ys = Str.join (" " : Str) ys := by
    show Builtin.Str.glued _ _ = _
    rw [StrLaws.glued_eq_join]
  have b1 : (" " : Str).length = 1 := by decide +kernel
  rw [e]
  cases ys with
  | nil => show (0 : Nat) ≤ _; exact Nat.zero_le _
  | cons a l =>
    rw [PyProof.Rows.len_join_cons, b1, List.length_cons]
    omega
theorem TxV.same {K : PySem.W.Frag} {H H' : Hp} {x : V} {b : Bool} (h : TxV K H x b) (e : Same H H') : TxV K H' x b := by
  cases h with
  | kind h ne => exact .kind (h.same e) ne
  | bad h n => exact .bad h n
  | good h n => exact .good h n
theorem passN {X : Cx} : Passes (CXH X.prog X.w) X (fun _ _ _ => False) := fun _ _ _ _ _ _ _ hq => by
  obtain ⟨_, _, _, _, _, _, _, _, _, _, z⟩ := hq
  exact z.elim
section
variable {P : Program} {w : World} {K : PySem.W.Frag} {mg : Str → Option Value} {base : Heap}
def spRefd (K : PySem.W.Frag) : Sp := fun vs H Q _ => ∃ x b, vs = [x] ∧ TxV K H x b ∧ ∀ H', Same H H' → Q (.bl (!b)) H'
theorem scRefd : FnScope ["_law_text"] ["_law_text"] (defScope sRefd) := ⟨rfl, rfl, rfl, by decide +kernel, rfl, by decide +kernel, by decide +kernel⟩
theorem ok_refd {k : Nat} {f fh C D : Addr} {fd dh : FuncData} (F : Fun K "_law_refused" "_law_refused" sRefd f fd) (B : PlainCls K mg base "BadText" "HedgeError" C D)
    (GH : FnOk P w K mg base (CXH P w) k fh dh ["text"] (spRd K C)) (bH : Binds K dh ["text"] []) (kH : PySem.W.keepIn K (.ref fh) = true) (mH : mg "read" = some (.ref fh)) : FnOk P w K mg base CX0 (k + 1) f fd ["_law_text"] (spRefd K) := by
  refine F.ok scRefd (fun vs H Q E h => ?_) (fun cdv A outer s H vs Q E hr h => ?_)
  · obtain ⟨x, b, rfl, _⟩ := h
    rfl
  obtain ⟨x, b, rfl, hv, q⟩ := h
  refine ⟨_, pss_cons (ps_try fun pins D => pss_one (ps_expr (pe_call GH hr rfl mH kH bH .nil (catch_pass pins D rfl rfl B.mC (fun a => pss_one (ps_ret pe_bl))) (pa_cons (pv 0) pa_nil))))
    <| pss_one (ps_ret pe_bl), ?_⟩
  refine ⟨_, rfl, x, b, rfl, hv, (fun hb t l n ks as H' sm _ _ _ _ _ => ?_), fun hb H' sm => ⟨B.t1, fun σ => ?_⟩⟩
  · have := q H' sm
    rw [hb] at this
    exact this
  · have := q H' sm
    rw [hb] at this
    exact this
def spByB (K : PySem.W.Frag) : Sp := fun vs H Q _ => ∃ x, vs = [x] ∧ TxV K H x false ∧ ∀ H', Same H H' → Q (.bl true) H'
theorem scByB : FnScope ["_law_text", "e"] ["_law_text"] (defScope sByB) := ⟨rfl, rfl, rfl, by decide +kernel, rfl, by decide +kernel, by decide +kernel⟩
theorem ok_byb {k : Nat} {f fh C D : Addr} {fd dh : FuncData} (F : Fun K "_law_by_base" "_law_by_base" sByB f fd) (B : PlainCls K mg base "BadText" "HedgeError" C D)
    (GH : FnOk P w K mg base (CXH P w) k fh dh ["text"] (spRd K C)) (bH : Binds K dh ["text"] []) (kH : PySem.W.keepIn K (.ref fh) = true) (mH : mg "read" = some (.ref fh)) (mi : mg "isinstance" = none) (mv : mg "ValueError" = none) : FnOk P w K mg base CX0 (k + 1) f fd ["_law_text"] (spByB K) := by
  refine F.ok scByB (fun vs H Q E h => ?_) (fun cdv A outer s H vs Q E hr h => ?_)
  · obtain ⟨x, rfl, _⟩ := h
    rfl
  obtain ⟨x, rfl, hv, q⟩ := h
  refine ⟨_, pss_cons (ps_try fun pins D => pss_one (ps_expr (pe_call GH hr rfl mH kH bH .nil (catch_as (i := 1) pins D rfl rfl B.mD scByB.nd rfl rfl
      (fun a o => pss_one (ps_ret (pe_callB (call_isExc (K := K) (x := a) (o := o) rfl (List.mem_append_right _ (List.mem_singleton.mpr rfl))) rfl mi PyProof.Rows.boot_isinstance (pa_cons (pv 1) (pa_cons (pe_bltn (v := .ty "ValueError") rfl mv rfl rfl) pa_nil)))))) (pa_cons (pv 0) pa_nil))))
    <| pss_one (ps_ret pe_bl), ?_⟩
  refine ⟨_, rfl, x, false, rfl, hv, (fun hb => by cases hb), fun _ H' sm => ⟨B.t2, fun σ a o hc hdd hf hx hi => ?_⟩⟩
  exact ⟨.ref a, by rw [List.getElem?_set_self hi], "ValueError", rfl, by rw [hc]; exact B.t3, q _ sm⟩
def spNone (K : PySem.W.Frag) : Sp := fun vs H Q _ => ∃ (n : Nat) (ks : List (Nat × Nat)) (m : Int), vs = [.str (HG.row n ks), .int m] ∧ n < 41 ∧ (∀ k ∈ ks, k.1 < 41 ∧ k.2 < 41) ∧ (HG.row n ks).length ≤ 110 ∧ ∀ x H', Same H H' → TxV K H' x false → Q x H'
theorem scNone : FnScope ["_law_text", "_law_manner", "_law_some"] ["_law_text", "_law_manner"] (defScope sNone) := ⟨rfl, rfl, rfl, by decide +kernel, rfl, by decide +kernel, by decide +kernel⟩
theorem good_rod {n : Nat} {ks : List (Nat × Nat)} (a : Acc n (zN ks)) : n < 41 ∧ ∀ k ∈ ks, k.1 < 41 ∧ k.2 < 41 := by
  have m := a.most
  exact ⟨by omega, fun k hk => by have := a.rod k hk; omega⟩
set_option maxHeartbeats 8000000 in
theorem ok_none {k : Nat} {f : Addr} {fd : FuncData} (F : Fun K "_law_none" "_law_none" sNone f fd) : FnOk P w K mg base CX0 (k + 1) f fd ["_law_text", "_law_manner"] (spNone K) := by
  refine F.ok scNone (fun vs H Q E h => ?_) (fun cdv A outer s H vs Q E hr h => ?_)
  · obtain ⟨n, ks, m, rfl, _⟩ := h
    rfl
  obtain ⟨n, ks, m, rfl, hn, hk, rl, q⟩ := h
  refine ⟨_, pss_cons (ps_set (i := 2) scNone.nd rfl (Or.inl rfl) (pe_lst (pa_cons pe_str (pa_cons pe_str (pa_cons (pe_op op_add_str (pv 0) pe_str) (pa_cons (pe_op op_add_str pe_str (pv 0)) (pa_cons (pe_op op_add_str pe_str (pv 0)) (pa_cons pe_non (pa_cons pe_int (pa_cons (pe_lst (pa_cons (pv 0) pa_nil))
      (pa_cons (pe_op op_add_str (pv 0) pe_str) pa_nil)))))))))))
    <| pss_one (ps_ret (pe_ix ix_list (pv 2) (pe_op op_mod (pv 1) pe_int) (fun _ _ => rfl))), ?_⟩
  have l1 : (" " : Str).length = 1 := by decide +kernel
  have l2 : ("0" : Str).length = 1 := by decide +kernel
  have l3 : (" 0-0" : Str).length = 4 := by decide +kernel
  generalize hz : HG.row n ks = z at *
  refine ⟨_, rfl, _, _, rfl, rfl, line_small (by rw [l1]; omega), _, rfl, _, _, rfl, rfl, line_small (by rw [l1]; omega), _, rfl, _, _, rfl, rfl, line_small (by rw [l2]; omega), _, rfl, one_line, fun pt hpt => ?_⟩
  refine ⟨_, rfl, _, _, rfl, rfl, line_small (by rw [l3]; omega), ?_⟩
  refine ⟨line_small (show 9 ≤ 1000 by decide), fun pl hpl => ?_⟩
  have smt := same_new hpt (.lst [.str z])
  have ht : upd H pt (.lst [.str z]) pt = some (.lst [.str z]) := upd_same
  obtain ⟨j, ej, hj⟩ := pick (c := m) (k := 9) (by decide)
  refine ⟨_, rfl, _, rfl, _, _, rfl, rfl, (by show (0 : Int) < 9; decide), pl, _, (j : Int), _, rfl, (by show V.int (m % ((9 : Nat) : Int)) = _; rw [ej]), SqL.of upd_same, atI_nat (List.getElem?_eq_getElem hj), ?_⟩
  refine q _ _ (smt.trans (same_new hpl _)) ?_
  have smL := fun o => same_new hpl o
  match j, hj with
  | 0, _ =>
    refine TxV.bad (z := ("" : Str)) (by decide +kernel) fun ⟨n', ks', a, e⟩ => ?_
    exact HG.no_empty (good_rod a).1 e.symm
  | 1, _ =>
    refine TxV.bad (z := (" " : Str)) (by rw [l1]; decide) fun ⟨n', ks', a, e⟩ => ?_
    exact HG.no_blank_first (y := Str.empty) (good_rod a).1 (by rw [← e]; decide +kernel)
  | 2, _ =>
    refine TxV.bad (z := z ++ (" " : Str)) (by rw [Str.length_append, l1]; omega) fun ⟨n', ks', a, e⟩ => ?_
    exact HG.no_blank_last (good_rod a).1 (good_rod a).2 e.symm
  | 3, _ =>
    refine TxV.bad (z := (" " : Str) ++ z) (by rw [Str.length_append, l1]; omega) fun ⟨n', ks', a, e⟩ => ?_
    exact HG.no_blank_first (good_rod a).1 e.symm
  | 4, _ =>
    refine TxV.bad (z := ("0" : Str) ++ z) (by rw [Str.length_append, l2]; omega) fun ⟨n', ks', a, e⟩ => ?_
    exact HG.no_nought (good_rod a).1 a.pos (by decide +kernel) e.symm
  | 5, _ => exact .kind .non (by decide)
  | 6, _ => exact .kind (.int 7) (by decide)
  | 7, _ => exact .kind (.lst (SqL.of (smL _ _ _ ht))) (by decide)
  | 8, _ =>
    refine TxV.bad (z := z ++ (" 0-0" : Str)) (by rw [Str.length_append, l3]; omega) fun ⟨n', ks', a, e⟩ => ?_
    have e4 : (" 0-0" : Str) = HG.blank ++ HG.word (0, 0) := by decide +kernel
    refine HG.no_loop (n := n) (n' := n') (ks := ks) (ks' := ks') hn (good_rod a).1 hk (fun k hk' => ⟨(a.rod k hk').1, ((good_rod a).2 k hk').2⟩) ?_
    rw [← e, hz, e4, Str.append_assoc]
  | n + 9, h => exact absurd h (by show ¬ n + 9 < 9; omega)
def spSpo : Sp := fun vs H Q _ => ∃ (z : Str) (m pl sg : Int), vs = [.str z, .int m, .int pl, .int sg] ∧ 0 < z.length ∧ z.length ≤ 110 ∧ ∀ (z' : Str) H', Same H H' → z'.length ≤ 900 → Q (.str z') H'
theorem scSpo : FnScope ["_law_text", "_law_manner", "_law_place", "_law_sign", "_law_at", "_law_words", "_law_turned"] ["_law_text", "_law_manner", "_law_place", "_law_sign"] (defScope sSpo) := ⟨rfl, rfl, rfl, by decide +kernel, rfl, by decide +kernel, by decide +kernel⟩
theorem signs17 : ∀ g, g < 17 → ∃ c, ("0123456789 -a+_\t\n" : Str).cps.toList[g]? = some c := by
  have : ("0123456789 -a+_\t\n" : Str).cps.toList.length = 17 := by decide +kernel
  intro g hg
  exact ⟨_, List.getElem?_eq_getElem (by rw [this]; exact hg)⟩
set_option maxHeartbeats 8000000 in
theorem ok_spo {k : Nat} {f : Addr} {fd : FuncData} (F : Fun K "_law_spoilt" "_law_spoilt" sSpo f fd) (ml : mg "len" = none) : FnOk P w K mg base CX0 (k + 1) f fd ["_law_text", "_law_manner", "_law_place", "_law_sign"] spSpo := by
  refine F.ok scSpo (fun vs H Q E h => ?_) (fun cdv A outer s H vs Q E hr h => ?_)
  · obtain ⟨l, m, pl, sg, rfl, _⟩ := h
    rfl
  obtain ⟨z, m, pl, sg, rfl, z0, z110, q⟩ := h
  refine ⟨_, pss_cons (ps_set (i := 4) scSpo.nd rfl (Or.inl rfl) (pe_mid (pe_op op_mod (pv 2) (pe_callB call_len_str rfl ml PySem.boot_len (pa_cons (pv 0) pa_nil)))))
    <| pss_cons (ps_if (pt_cmpR op_eq (pv 1) pe_int (nomark _)) (pss_one (ps_ret (pe_op op_add_str (pe_slice sl_str (pv 0) po_none (po_some (pv 4))) (pe_slice sl_str (pv 0) (po_some (pe_op op_add (pv 4) pe_int)) po_none)))) pss_nil)
    <| pss_cons (ps_if (pt_cmpR op_eq (pv 1) pe_int (nomark _)) (pss_one (ps_ret (pe_op op_add_str (pe_slice sl_str (pv 0) po_none (po_some (pe_op op_add (pv 4) pe_int))) (pe_slice sl_str (pv 0) (po_some (pv 4)) po_none)))) pss_nil)
    <| pss_cons (ps_if (pt_cmpR op_eq (pv 1) pe_int (nomark _)) (pss_one (ps_ret (pe_op op_add_str (pe_op op_add_str (pe_slice sl_str (pv 0) po_none (po_some (pv 4))) (pe_ix ix_str pe_str (pe_op op_mod (pv 3) pe_int) (fun _ _ => rfl))) (pe_slice sl_str (pv 0) (po_some (pe_op op_add (pv 4) pe_int)) po_none)))) pss_nil)
    <| pss_cons (ps_if (pt_cmpR op_eq (pv 1) pe_int (nomark _)) (pss_cons (ps_set (i := 4) scSpo.nd rfl (Or.inl rfl) (pe_op op_add (pe_bm PySem.F.plainAttrs_str PySem.F.slot_str_find PySem.F.type_str_find mt_find3 (pv 0) (pa_cons pe_str (pa_cons (pv 4) pa_nil))) pe_int))
        <| pss_one (ps_ret (pe_op op_add_str (pe_op op_add_str (pe_slice sl_str (pv 0) po_none (po_some (pv 4))) pe_str) (pe_slice sl_str (pv 0) (po_some (pv 4)) po_none)))) pss_nil)
    <| pss_cons (ps_set (i := 5) scSpo.nd rfl (Or.inl rfl) (pe_bm PySem.F.plainAttrs_str PySem.F.slot_str_split PySem.F.type_str_split mt_split (pv 0) (pa_cons pe_str pa_nil)))
    <| pss_cons (ps_set (i := 4) scSpo.nd rfl (Or.inl rfl) (pe_mid (pe_op op_mod (pv 2) (pe_callB call_len_seq rfl ml PySem.boot_len (pa_cons (pv 5) pa_nil)))))
    <| pss_cons (ps_set (i := 6) scSpo.nd rfl (Or.inl rfl) (pe_op op_cat (pe_slice sl_list (pv 5) (po_some (pe_op op_add (pv 4) pe_int)) (po_some (pe_op op_add (pv 4) pe_int))) (pe_slice sl_list (pv 5) (po_some (pv 4)) (po_some (pe_op op_add (pv 4) pe_int)))))
    <| pss_one (ps_ret (pe_bm PySem.F.plainAttrs_str PySem.F.slot_str_join PySem.F.type_str_join mt_join pe_str (pa_cons (pe_op op_cat (pe_op op_cat (pe_slice sl_list (pv 5) po_none (po_some (pv 4))) (pv 6)) (pe_slice sl_list (pv 5) (po_some (pe_op op_add (pv 4) pe_int)) po_none)) pa_nil))), ?_⟩
  have zl : z.length ≤ sizeLine := line_small (by omega)
  have sl : ∀ a b, (Txt.slice z a b).length ≤ z.length := fun a b => Txt.slice_le z a b
  have l1 : (" " : Str).length = 1 := by decide +kernel
  have l2 : ("0" : Str).length = 1 := by decide +kernel
  refine ⟨fun v H' => H = H' ∧ ∃ j : Nat, v = .int (j : Int), ?_, fun v H' hv => ?_⟩
  · refine ⟨_, rfl, _, rfl, _, rfl, zl, _, _, rfl, rfl, by omega, rfl, ?_⟩
    obtain ⟨j, ej, hj⟩ := pick (c := pl) (k := z.length) z0
    exact ⟨j, by rw [← ej]⟩
  obtain ⟨rfl, j, rfl⟩ := hv
  refine ⟨_, rfl, rfl, _, rfl, ite2 (fun _ => ?_) (fun _ => ⟨_, rfl, rfl, _, rfl, ite2 (fun _ => ?_) (fun _ => ⟨_, rfl, rfl, _, rfl, ite2 (fun _ => ?_) (fun _ => ⟨_, rfl, rfl, _, rfl, ite2 (fun _ => ?_) (fun _ => ?_)⟩)⟩)⟩)⟩
  · refine ⟨_, rfl, _, rfl, _, rfl, _, rfl, zl, _, rfl, _, rfl, _, _, rfl, rfl, _, rfl, _, rfl, zl, _, _, rfl, rfl, ?_, ?_⟩
    · exact line_small (Nat.le_trans (Nat.add_le_add (sl _ _) (sl _ _)) (by omega))
    · exact q _ _ (Same.refl _) (by rw [Str.length_append]; exact Nat.le_trans (Nat.add_le_add (sl _ _) (sl _ _)) (by omega))
  · refine ⟨_, rfl, _, rfl, _, _, rfl, rfl, _, rfl, _, rfl, zl, _, rfl, _, rfl, _, rfl, _, rfl, zl, _, _, rfl, rfl, ?_, ?_⟩
    · exact line_small (Nat.le_trans (Nat.add_le_add (sl _ _) (sl _ _)) (by omega))
    · exact q _ _ (Same.refl _) (by rw [Str.length_append]; exact Nat.le_trans (Nat.add_le_add (sl _ _) (sl _ _)) (by omega))
  · obtain ⟨g, eg, hg⟩ := pick (c := sg) (k := 17) (by decide)
    obtain ⟨cc, hcc⟩ := signs17 g hg
    have c1 : (⟨#[cc]⟩ : Str).length = 1 := rfl
    refine ⟨_, rfl, _, rfl, _, rfl, _, rfl, zl, _, rfl, _, _, rfl, rfl, (by show (0 : Int) < 17; decide), ("0123456789 -a+_\t\n" : Str), (g : Int), cc, rfl, (by show V.int (sg % ((17 : Nat) : Int)) = _; rw [eg]), line_small (by decide +kernel), atI_nat hcc, _, _, rfl, rfl, ?_, _, rfl, _, rfl, _, _, rfl, rfl, _, rfl, _, rfl, zl, _, _, rfl, rfl, ?_, ?_⟩
    · exact line_small (Nat.le_trans (Nat.add_le_add (sl _ _) (Nat.le_of_eq c1)) (by omega))
    · rw [Str.length_append]
      exact line_small (Nat.le_trans (Nat.add_le_add (Nat.add_le_add (sl _ _) (Nat.le_of_eq c1)) (sl _ _)) (by omega))
    · refine q _ _ (Same.refl _) ?_
      rw [Str.length_append, Str.length_append]
      exact Nat.le_trans (Nat.add_le_add (Nat.add_le_add (sl _ _) (Nat.le_of_eq c1)) (sl _ _)) (by omega)
  · refine ⟨_, rfl, rfl, _, rfl, _, _, _, rfl, rfl, _, _, rfl, rfl, ?_⟩
    refine ⟨_, rfl, _, rfl, _, rfl, _, rfl, zl, _, _, rfl, rfl, ?_, _, rfl, _, rfl, _, rfl, _, rfl, zl, _, _, rfl, rfl, ?_, ?_⟩
    · exact line_small (Nat.le_trans (Nat.add_le_add (sl _ _) (Nat.le_of_eq l2)) (by omega))
    · rw [Str.length_append]
      exact line_small (Nat.le_trans (Nat.add_le_add (Nat.add_le_add (sl _ _) (Nat.le_of_eq l2)) (sl _ _)) (by omega))
    · refine q _ _ (Same.refl _) ?_
      rw [Str.length_append, Str.length_append]
      exact Nat.le_trans (Nat.add_le_add (Nat.add_le_add (sl _ _) (Nat.le_of_eq l2)) (sl _ _)) (by omega)
  · refine ⟨_, rfl, rfl, _, _, rfl, rfl, by decide +kernel, by omega, fun p hp => ?_⟩
    have sw := PyProof.Rows.split_weight z (" " : Str) (by rw [l1]; exact Nat.le_refl _)
    obtain ⟨w0, ws, es⟩ := HG.split_pos z (" " : Str)
    have wn : 0 < (Txt.split z (" " : Str)).length := by rw [es]; simp
    generalize Txt.split z (" " : Str) = W at *
    have hp1 : upd H p (.lst (W.map V.str)) p = some (.lst (W.map V.str)) := upd_same
    have smp := same_new hp (.lst (W.map V.str))
    refine ⟨fun v H' => upd H p (.lst (W.map V.str)) = H' ∧ ∃ a : Int, v = .int a, ⟨_, rfl, _, rfl, p, _, rfl, .inl (SqL.of hp1), _, _, rfl, rfl, (by rw [List.length_map]; omega), rfl, _, rfl⟩, fun v H' hv => ?_⟩
    obtain ⟨rfl, a, rfl⟩ := hv
    obtain ⟨W1, c1, s1, n1⟩ := cut_strs W (some (a + 1)) (some (a + 2))
    obtain ⟨W2, c2, s2, n2⟩ := cut_strs W (some a) (some (a + 1))
    obtain ⟨W3, c3, s3, n3⟩ := cut_strs W none (some a)
    obtain ⟨W4, c4, s4, n4⟩ := cut_strs W (some (a + 2)) none
    refine ⟨_, rfl, _, rfl, _, _, rfl, rfl, _, rfl, _, rfl, _, _, rfl, rfl, _, rfl, p, _, rfl, SqL.of hp1, fun p1 hn1 => ?_⟩
    rw [c1]
    have sm1 := same_new hn1 (.lst (W1.map V.str))
    have hp2 := sm1 _ _ hp1
    refine ⟨_, rfl, _, rfl, _, rfl, _, rfl, _, _, rfl, rfl, _, rfl, p, _, rfl, SqL.of hp2, fun p2 hn2 => ?_⟩
    rw [c2]
    have sm2 := same_new hn2 (.lst (W2.map V.str))
    have h11 : upd (upd (upd H p (.lst (W.map V.str))) p1 (.lst (W1.map V.str))) p2 (.lst (W2.map V.str)) p1 = some (.lst (W1.map V.str)) := sm2 _ _ upd_same
    refine ⟨p1, p2, _, _, rfl, rfl, h11, upd_same, line_small (by rw [List.length_map, List.length_map]; omega), fun p3 hn3 => ?_⟩
    have sm3 := same_new hn3 (.lst (W1.map V.str ++ W2.map V.str))
    have hp3 := sm3 _ _ (sm2 _ _ hp2)
    refine ⟨rfl, _, rfl, _, rfl, _, rfl, p, _, rfl, SqL.of hp3, fun p4 hn4 => ?_⟩
    rw [c3]
    have sm4 := same_new hn4 (.lst (W3.map V.str))
    have h33 := sm4 _ _ (show upd (upd (upd (upd H p (.lst (W.map V.str))) p1 (.lst (W1.map V.str))) p2 (.lst (W2.map V.str))) p3 (.lst (W1.map V.str ++ W2.map V.str)) p3 = _ from upd_same)
    refine ⟨_, rfl, p4, p3, _, _, rfl, rfl, upd_same, h33, line_small (by rw [List.length_append, List.length_map, List.length_map, List.length_map]; omega), fun p5 hn5 => ?_⟩
    have sm5 := same_new hn5 (.lst (W3.map V.str ++ (W1.map V.str ++ W2.map V.str)))
    have hp5 := sm5 _ _ (sm4 _ _ hp3)
    refine ⟨_, rfl, _, rfl, _, _, rfl, rfl, _, rfl, p, _, rfl, SqL.of hp5, fun p6 hn6 => ?_⟩
    rw [c4]
    have sm6 := same_new hn6 (.lst (W4.map V.str))
    have h56 := sm6 _ _ (show upd (upd (upd (upd (upd (upd H p (.lst (W.map V.str))) p1 (.lst (W1.map V.str))) p2 (.lst (W2.map V.str))) p3 (.lst (W1.map V.str ++ W2.map V.str))) p4 (.lst (W3.map V.str))) p5 (.lst (W3.map V.str ++ (W1.map V.str ++ W2.map V.str))) p5 = _ from upd_same)
    refine ⟨p5, p6, _, _, rfl, rfl, h56, upd_same, line_small (by simp only [List.length_append, List.length_map]; omega), fun p7 hn7 => ?_⟩
    have sm7 := same_new hn7 (.lst (W3.map V.str ++ (W1.map V.str ++ W2.map V.str) ++ W4.map V.str))
    have ew : W3.map V.str ++ (W1.map V.str ++ W2.map V.str) ++ W4.map V.str = (W3 ++ (W1 ++ W2) ++ W4).map V.str := by simp
    have tot : ((W3 ++ (W1 ++ W2) ++ W4).map (·.length)).sum + (W3 ++ (W1 ++ W2) ++ W4).length ≤ 800 := by
      simp only [List.map_append, List.sum_append, List.length_append]
      omega
    refine ⟨_, p7, W3 ++ (W1 ++ W2) ++ W4, rfl, rfl, SqL.of (by rw [← ew]; exact upd_same), ?_, ?_⟩
    · rw [l1]; omega
    · exact q _ _ (smp.trans (sm1.trans (sm2.trans (sm3.trans (sm4.trans (sm5.trans (sm6.trans sm7))))))) (Nat.le_trans (join_len _) (by omega))
end
end Hd
namespace Hd
open PySem L2
section
variable {P : Program} {w : World} {K : PySem.W.Frag} {mg : Str → Option Value} {base : Heap}
def spLaw (K : PySem.W.Frag) : Sp := fun vs H Q _ => ∃ (a : Addr) (ns : List Int), vs = [.ref a] ∧ SqL K H a (ns.map V.int) ∧ ns.length ≤ 63 ∧ ∀ H', Q (.bl true) H'
def NL : List Str := ["_law_script", "_law_text", "_law_manner", "_law_bad"]
theorem scLaw : FnScope NL ["_law_script"] (defScope sLaw) := ⟨rfl, rfl, rfl, by decide +kernel, rfl, by decide +kernel, by decide +kernel⟩
theorem ok_law {k : Nat} {f fh fw fe fr fb fn fs fd' C : Addr} {fd dh dw de dr db dn ds dd' : FuncData} (F : Fun K "law" "law" sLaw f fd)
    (GH : FnOk P w K mg base CX0 k fh dh ["_law_script", "_law_at"] (spHedge K)) (bH : Binds K dh ["_law_script", "_law_at"] []) (kH : PySem.W.keepIn K (.ref fh) = true) (mH : mg "_law_hedge" = some (.ref fh))
    (GW : FnOk P w K mg base CX0 k fw dw ["hedge"] (spShown K)) (bW : Binds K dw ["hedge"] []) (kW : PySem.W.keepIn K (.ref fw) = true) (mW : mg "shown" = some (.ref fw))
    (GE : FnOk P w K mg base CX0 k fe de ["_law_script", "_law_k"] (spCell K)) (bE : Binds K de ["_law_script", "_law_k"] []) (kE : PySem.W.keepIn K (.ref fe) = true) (mE : mg "_law_cell" = some (.ref fe))
    (GR : FnOk P w K mg base CX0 k fr dr ["_law_text"] (spRefd K)) (bR : Binds K dr ["_law_text"] []) (kR : PySem.W.keepIn K (.ref fr) = true) (mR : mg "_law_refused" = some (.ref fr))
    (GB : FnOk P w K mg base CX0 k fb db ["_law_text"] (spByB K)) (bB : Binds K db ["_law_text"] []) (kB : PySem.W.keepIn K (.ref fb) = true) (mB : mg "_law_by_base" = some (.ref fb))
    (GN : FnOk P w K mg base CX0 k fn dn ["_law_text", "_law_manner"] (spNone K)) (bN : Binds K dn ["_law_text", "_law_manner"] []) (kN : PySem.W.keepIn K (.ref fn) = true) (mN : mg "_law_none" = some (.ref fn))
    (GS : FnOk P w K mg base CX0 k fs ds ["_law_text", "_law_manner", "_law_place", "_law_sign"] spSpo) (bS : Binds K ds ["_law_text", "_law_manner", "_law_place", "_law_sign"] []) (kS : PySem.W.keepIn K (.ref fs) = true) (mS : mg "_law_spoilt" = some (.ref fs))
    (GD : FnOk P w K mg base (CXH P w) k fd' dd' ["text"] (spRd K C)) (bD : Binds K dd' ["text"] []) (kD : PySem.W.keepIn K (.ref fd') = true) (mD : mg "read" = some (.ref fd')) :
    FnOk P w K mg base CX0 (k + 1) f fd ["_law_script"] (spLaw K) := by
  refine F.ok scLaw (fun vs H Q E h => ?_) (fun cdv A outer s H vs Q E hr h => ?_)
  · obtain ⟨a, ns, rfl, _⟩ := h
    rfl
  obtain ⟨a, ns, rfl, hS, h63, q⟩ := h
  refine ⟨_, pss_cons (ps_set (i := 1) scLaw.nd rfl (Or.inl rfl) (pe_call GW hr rfl mW kW bW .nil pass0 (pa_cons (pe_call GH hr rfl mH kH bH .nil pass0 (pa_cons (pv 0) (pa_cons pe_int pa_nil))) pa_nil)))
    <| pss_cons (ps_set (i := 2) scLaw.nd rfl (Or.inl rfl) (pe_op op_mod (pe_call GE hr rfl mE kE bE .nil pass0 (pa_cons (pv 0) (pa_cons pe_int pa_nil))) pe_int))
    <| pss_cons (ps_if (pt_cmpR op_eq (pv 2) pe_int (nomark _)) (pss_cons (ps_set (i := 3) scLaw.nd rfl (Or.inl rfl) (pe_call GN hr rfl mN kN bN .nil pass0 (pa_cons (pv 1) (pa_cons (pe_call GE hr rfl mE kE bE .nil pass0 (pa_cons (pv 0) (pa_cons pe_int pa_nil))) pa_nil))))
        <| pss_one (ps_ret (pe_and (pe_call GR hr rfl mR kR bR .nil pass0 (pa_cons (pv 3) pa_nil)) (pe_one (pe_call GB hr rfl mB kB bB .nil pass0 (pa_cons (pv 3) pa_nil)))))) pss_nil)
    <| pss_cons (ps_set (i := 3) scLaw.nd rfl (Or.inl rfl) (pe_call GS hr rfl mS kS bS .nil pass0 (pa_cons (pv 1) (pa_cons (pv 2) (pa_cons (pe_call GE hr rfl mE kE bE .nil pass0 (pa_cons (pv 0) (pa_cons pe_int pa_nil))) (pa_cons (pe_call GE hr rfl mE kE bE .nil pass0 (pa_cons (pv 0) (pa_cons pe_int pa_nil))) pa_nil))))))
    <| pss_cons (ps_if (pt_val (pe_call GR hr rfl mR kR bR .nil pass0 (pa_cons (pv 3) pa_nil))) (pss_one (ps_ret (pe_call GB hr rfl mB kB bB .nil pass0 (pa_cons (pv 3) pa_nil)))) pss_nil)
    <| pss_one (ps_ret (pe_cmpR op_eq (pe_call GW hr rfl mW kW bW .nil pass0 (pa_cons (pe_call GD hr rfl mD kD bD .nil passN (pa_cons (pv 3) pa_nil)) pa_nil)) (pv 3) (nomark _))), ?_⟩
  refine ⟨_, rfl, a, ns, 3, rfl, hS, h63, by decide, by decide, fun t l n as ks H1 sm1 hg ht hl n18 => ?_⟩
  have hrod : ∀ k ∈ ks, 0 ≤ k.1 ∧ k.1 < k.2 ∧ k.2 < (n : Int) := fun k hk => hg.ok.rod hk
  have hlen := hg.ok.len
  have hkl : ks.length ≤ 40 := by omega
  have bk : ∀ k ∈ natK ks, k.1 < 41 ∧ k.2 < 41 := fun k hk' => by
    obtain ⟨k0, h0, rfl⟩ := List.mem_map.mp hk'
    have := hrod k0 h0
    dsimp only; omega
  have nl : (natK ks).length = ks.length := by unfold natK; rw [List.length_map]
  have rl : (HG.row n (natK ks)).length ≤ 110 := by
    have z := HG.row_len (natK ks) bk (HG.num n)
    have := (HG.num_free n (by omega)).2
    unfold HG.row
    omega
  have r0 : 0 < (HG.row n (natK ks)).length := by
    rcases Nat.eq_zero_or_pos (HG.row n (natK ks)).length with z | z
    · exfalso
      obtain ⟨c, r, e, _⟩ := HG.row_first (n := n) (ks := natK ks) (by omega)
      rw [← HG.cs_len, e] at z
      simp at z
    · exact z
  refine ⟨t, l, n, as, ks, rfl, hg.tup, hg.lst, hg.prs, by omega, hkl, fun k hk => by have := hrod k hk; omega, fun H2 sm2 => ?_⟩
  have hS2 := (sm1.trans sm2).seq hS
  refine ⟨_, rfl, a, ns, 0, rfl, hS2, Int.le_refl 0, _, _, rfl, rfl, (by show (0 : Int) < 6; decide), ?_⟩
  refine ⟨_, rfl, rfl, _, rfl, ite2 (fun _ => ?_) (fun _ => ?_)⟩
  · refine ⟨_, rfl, _, rfl, a, ns, 1, rfl, hS2, by decide, n, natK ks, _, rfl, by omega, bk, rl, fun x H3 sm3 hv => ?_⟩
    refine ⟨_, rfl, x, false, rfl, hv, fun H4 sm4 => ⟨_, rfl, iteT ⟨_, rfl, x, rfl, hv.same sm4, fun H5 _ => q _⟩⟩⟩
  · refine ⟨_, rfl, _, rfl, _, rfl, a, ns, 1, rfl, hS2, by decide, _, rfl, a, ns, 2, rfl, hS2, by decide, HG.row n (natK ks), _, _, _, rfl, r0, rl, fun z H3 sm3 zl => ?_⟩
    by_cases c : Good z
    · refine ⟨_, rfl, _, true, rfl, .good zl c, fun H4 sm4 => ⟨_, rfl, iteF ?_⟩⟩
      refine ⟨_, rfl, _, true, rfl, .good zl c, fun _ t' l' n' ks' as' H5 sm5 e acc ht' hl' hp' => ?_, fun hb => by cases hb⟩
      have hm := acc.most
      refine ⟨t', l', n', as', zN ks', rfl, SqT.of ht', SqL.of hl', hp', hm, by have := acc.len; omega, fun k hk => ?_, fun H6 sm6 => ?_⟩
      · unfold zN at hk
        obtain ⟨k0, hk0, rfl⟩ := List.mem_map.mp hk
        have := acc.rod k0 hk0
        dsimp only
        omega
      · refine ⟨_, rfl, rfl, ?_⟩
        rw [natK_zN, decide_eq_true (show V.str (HG.row n' ks') = V.str z from e.symm)]
        exact q _
    · refine ⟨_, rfl, _, false, rfl, .bad zl c, fun H4 sm4 => ⟨_, rfl, iteT ?_⟩⟩
      exact ⟨_, rfl, _, rfl, .bad zl c, fun H5 _ => q _⟩
end
end Hd
set_option maxRecDepth 100000
set_option maxHeartbeats 4000000
namespace Hd
open PySem L2
theorem all_mk {l : PySem.W.OpenLaw} {w : World} {K : PySem.W.Frag} {h : Heap} {mg : Str → Option Value} {fa f1 f2 f3 f4 f5 f6 f7 f8 f9 f10 f11 f12 f13 f14 f15 f16 f17 f18 f19 f20 : Addr} (X : K.In h) (G : h.Ns mainGlobals mg) (hfa : mg "law" = some (.ref fa))
    {od1 an1 od2 an2 od3 an3 od4 an4 od5 an5 od6 an6 od7 an7 od8 an8 od9 an9 od10 an10 od11 an11 od12 an12 od13 an13 od14 an14 od15 an15 od16 an16 od17 an17 od18 an18 od19 an19 od20 an20 : Option Addr} {sl1 sl2 sl3 sl4 sl5 sl6 sl7 sl8 sl9 sl10 sl11 sl12 sl13 sl14 sl15 sl16 sl17 sl18 sl19 sl20 : Array (Option Value)} {oc1 kV1 dc1 pm1 cd1 ct1 oc2 kV2 dc2 pm2 cd2 ct2 oc3 kV3 dc3 pm3 cd3 ct3 oc4 kV4 dc4 pm4 cd4 ct4 oc5 kV5 dc5 pm5 cd5 ct5 oc6 kV6 dc6 pm6 cd6 ct6 oc7 kV7 dc7 pm7 cd7 ct7 oc8 kV8 dc8 pm8 cd8 ct8 oc9 kV9 dc9 pm9 cd9 ct9 oc10 kV10 dc10 pm10 cd10 ct10 oc11 kV11 dc11 pm11 cd11 ct11 oc12 kV12 dc12 pm12 cd12 ct12 oc13 kV13 dc13 pm13 cd13 ct13 oc14 kV14 dc14 pm14 cd14 ct14 oc15 kV15 dc15 pm15 cd15 ct15 oc16 kV16 dc16 pm16 cd16 ct16 oc17 kV17 dc17 pm17 cd17 ct17 oc18 kV18 dc18 pm18 cd18 ct18 oc19 kV19 dc19 pm19 cd19 ct19 oc20 kV20 dc20 pm20 cd20 ct20 : Value}
    {c_BadHedge c_HedgeError : Addr} (q1 : PySem.W.nsIn K mainGlobals "BadHedge" = some (some (.ref c_BadHedge))) (q2 : PySem.W.nsIn K mainGlobals "HedgeError" = some (some (.ref c_HedgeError)))
    {c_BadText : Addr} (q4 : PySem.W.nsIn K mainGlobals "BadText" = some (some (.ref c_BadText)))
    (a1 : PySem.W.findIn K (.ref c_BadHedge) "__init__" = some (some (.ref f1))) (l1 : K.lookup f1 = some ⟨oc1, od1, .func (PySem.W.fnOf "__init__" "BadHedge.__init__" (defArgs sInit) (defBody sInit) (defScope sInit) .none kV1 dc1 pm1 an1 cd1 ct1), sl1⟩) (c1 : PySem.W.codeIn K cd1 "BadHedge.__init__" = true) (k1 : PySem.W.keepIn K (.ref f1) = true)
    (a2 : PySem.W.nsIn K mainGlobals "is_number" = some (some (.ref f2))) (l2 : K.lookup f2 = some ⟨oc2, od2, .func (PySem.W.fnOf "is_number" "is_number" (defArgs sIsN) (defBody sIsN) (defScope sIsN) .none kV2 dc2 pm2 an2 cd2 ct2), sl2⟩) (c2 : PySem.W.codeIn K cd2 "is_number" = true) (k2 : PySem.W.keepIn K (.ref f2) = true)
    (a3 : PySem.W.nsIn K mainGlobals "is_hedge_form" = some (some (.ref f3))) (l3 : K.lookup f3 = some ⟨oc3, od3, .func (PySem.W.fnOf "is_hedge_form" "is_hedge_form" (defArgs sIsF) (defBody sIsF) (defScope sIsF) .none kV3 dc3 pm3 an3 cd3 ct3), sl3⟩) (c3 : PySem.W.codeIn K cd3 "is_hedge_form" = true) (k3 : PySem.W.keepIn K (.ref f3) = true)
    (a4 : PySem.W.nsIn K mainGlobals "is_rod" = some (some (.ref f4))) (l4 : K.lookup f4 = some ⟨oc4, od4, .func (PySem.W.fnOf "is_rod" "is_rod" (defArgs sIsR) (defBody sIsR) (defScope sIsR) .none kV4 dc4 pm4 an4 cd4 ct4), sl4⟩) (c4 : PySem.W.codeIn K cd4 "is_rod" = true) (k4 : PySem.W.keepIn K (.ref f4) = true)
    (a5 : PySem.W.nsIn K mainGlobals "merged" = some (some (.ref f5))) (l5 : K.lookup f5 = some ⟨oc5, od5, .func (PySem.W.fnOf "merged" "merged" (defArgs sMerged) (defBody sMerged) (defScope sMerged) .none kV5 dc5 pm5 an5 cd5 ct5), sl5⟩) (c5 : PySem.W.codeIn K cd5 "merged" = true) (k5 : PySem.W.keepIn K (.ref f5) = true)
    (a6 : PySem.W.nsIn K mainGlobals "checked" = some (some (.ref f6))) (l6 : K.lookup f6 = some ⟨oc6, od6, .func (PySem.W.fnOf "checked" "checked" (defArgs sChecked) (defBody sChecked) (defScope sChecked) .none kV6 dc6 pm6 an6 cd6 ct6), sl6⟩) (c6 : PySem.W.codeIn K cd6 "checked" = true) (k6 : PySem.W.keepIn K (.ref f6) = true)
    (a7 : PySem.W.nsIn K mainGlobals "shown" = some (some (.ref f7))) (l7 : K.lookup f7 = some ⟨oc7, od7, .func (PySem.W.fnOf "shown" "shown" (defArgs sShown) (defBody sShown) (defScope sShown) .none kV7 dc7 pm7 an7 cd7 ct7), sl7⟩) (c7 : PySem.W.codeIn K cd7 "shown" = true) (k7 : PySem.W.keepIn K (.ref f7) = true)
    (a8 : PySem.W.nsIn K mainGlobals "number_read" = some (some (.ref f8))) (l8 : K.lookup f8 = some ⟨oc8, od8, .func (PySem.W.fnOf "number_read" "number_read" (defArgs sNRead) (defBody sNRead) (defScope sNRead) .none kV8 dc8 pm8 an8 cd8 ct8), sl8⟩) (c8 : PySem.W.codeIn K cd8 "number_read" = true) (k8 : PySem.W.keepIn K (.ref f8) = true)
    (a9 : PySem.W.nsIn K mainGlobals "rod_read" = some (some (.ref f9))) (l9 : K.lookup f9 = some ⟨oc9, od9, .func (PySem.W.fnOf "rod_read" "rod_read" (defArgs sRRead) (defBody sRRead) (defScope sRRead) .none kV9 dc9 pm9 an9 cd9 ct9), sl9⟩) (c9 : PySem.W.codeIn K cd9 "rod_read" = true) (k9 : PySem.W.keepIn K (.ref f9) = true)
    (a10 : PySem.W.nsIn K mainGlobals "read" = some (some (.ref f10))) (l10 : K.lookup f10 = some ⟨oc10, od10, .func (PySem.W.fnOf "read" "read" (defArgs sRead) (defBody sRead) (defScope sRead) .none kV10 dc10 pm10 an10 cd10 ct10), sl10⟩) (c10 : PySem.W.codeIn K cd10 "read" = true) (k10 : PySem.W.keepIn K (.ref f10) = true)
    (a11 : PySem.W.nsIn K mainGlobals "_law_cell" = some (some (.ref f11))) (l11 : K.lookup f11 = some ⟨oc11, od11, .func (PySem.W.fnOf "_law_cell" "_law_cell" (defArgs sCell) (defBody sCell) (defScope sCell) .none kV11 dc11 pm11 an11 cd11 ct11), sl11⟩) (c11 : PySem.W.codeIn K cd11 "_law_cell" = true) (k11 : PySem.W.keepIn K (.ref f11) = true)
    (a12 : PySem.W.nsIn K mainGlobals "_law_mix" = some (some (.ref f12))) (l12 : K.lookup f12 = some ⟨oc12, od12, .func (PySem.W.fnOf "_law_mix" "_law_mix" (defArgs sMix) (defBody sMix) (defScope sMix) .none kV12 dc12 pm12 an12 cd12 ct12), sl12⟩) (c12 : PySem.W.codeIn K cd12 "_law_mix" = true) (k12 : PySem.W.keepIn K (.ref f12) = true)
    (a13 : PySem.W.nsIn K mainGlobals "_law_large" = some (some (.ref f13))) (l13 : K.lookup f13 = some ⟨oc13, od13, .func (PySem.W.fnOf "_law_large" "_law_large" (defArgs sLarge) (defBody sLarge) (defScope sLarge) .none kV13 dc13 pm13 an13 cd13 ct13), sl13⟩) (c13 : PySem.W.codeIn K cd13 "_law_large" = true) (k13 : PySem.W.keepIn K (.ref f13) = true)
    (a14 : PySem.W.nsIn K mainGlobals "_law_order" = some (some (.ref f14))) (l14 : K.lookup f14 = some ⟨oc14, od14, .func (PySem.W.fnOf "_law_order" "_law_order" (defArgs sOrder) (defBody sOrder) (defScope sOrder) .none kV14 dc14 pm14 an14 cd14 ct14), sl14⟩) (c14 : PySem.W.codeIn K cd14 "_law_order" = true) (k14 : PySem.W.keepIn K (.ref f14) = true)
    (a15 : PySem.W.nsIn K mainGlobals "_law_hedge" = some (some (.ref f15))) (l15 : K.lookup f15 = some ⟨oc15, od15, .func (PySem.W.fnOf "_law_hedge" "_law_hedge" (defArgs sHedge) (defBody sHedge) (defScope sHedge) .none kV15 dc15 pm15 an15 cd15 ct15), sl15⟩) (c15 : PySem.W.codeIn K cd15 "_law_hedge" = true) (k15 : PySem.W.keepIn K (.ref f15) = true)
    (a16 : PySem.W.nsIn K mainGlobals "_law_refused" = some (some (.ref f16))) (l16 : K.lookup f16 = some ⟨oc16, od16, .func (PySem.W.fnOf "_law_refused" "_law_refused" (defArgs sRefd) (defBody sRefd) (defScope sRefd) .none kV16 dc16 pm16 an16 cd16 ct16), sl16⟩) (c16 : PySem.W.codeIn K cd16 "_law_refused" = true) (k16 : PySem.W.keepIn K (.ref f16) = true)
    (a17 : PySem.W.nsIn K mainGlobals "_law_by_base" = some (some (.ref f17))) (l17 : K.lookup f17 = some ⟨oc17, od17, .func (PySem.W.fnOf "_law_by_base" "_law_by_base" (defArgs sByB) (defBody sByB) (defScope sByB) .none kV17 dc17 pm17 an17 cd17 ct17), sl17⟩) (c17 : PySem.W.codeIn K cd17 "_law_by_base" = true) (k17 : PySem.W.keepIn K (.ref f17) = true)
    (a18 : PySem.W.nsIn K mainGlobals "_law_none" = some (some (.ref f18))) (l18 : K.lookup f18 = some ⟨oc18, od18, .func (PySem.W.fnOf "_law_none" "_law_none" (defArgs sNone) (defBody sNone) (defScope sNone) .none kV18 dc18 pm18 an18 cd18 ct18), sl18⟩) (c18 : PySem.W.codeIn K cd18 "_law_none" = true) (k18 : PySem.W.keepIn K (.ref f18) = true)
    (a19 : PySem.W.nsIn K mainGlobals "_law_spoilt" = some (some (.ref f19))) (l19 : K.lookup f19 = some ⟨oc19, od19, .func (PySem.W.fnOf "_law_spoilt" "_law_spoilt" (defArgs sSpo) (defBody sSpo) (defScope sSpo) .none kV19 dc19 pm19 an19 cd19 ct19), sl19⟩) (c19 : PySem.W.codeIn K cd19 "_law_spoilt" = true) (k19 : PySem.W.keepIn K (.ref f19) = true)
    (a20 : PySem.W.nsIn K mainGlobals "law" = some (some (.ref f20))) (l20 : K.lookup f20 = some ⟨oc20, od20, .func (PySem.W.fnOf "law" "law" (defArgs sLaw) (defBody sLaw) (defScope sLaw) .none kV20 dc20 pm20 an20 cd20 ct20), sl20⟩) (c20 : PySem.W.codeIn K cd20 "law" = true) (k20 : PySem.W.keepIn K (.ref f20) = true)
    (z1 : PySem.W.nsIn K mainGlobals "len" = some none)
    (z2 : PySem.W.nsIn K mainGlobals "range" = some none)
    (z3 : PySem.W.nsIn K mainGlobals "sorted" = some none)
    (z4 : PySem.W.nsIn K mainGlobals "max" = some none)
    (z5 : PySem.W.nsIn K mainGlobals "min" = some none)
    (z6 : PySem.W.nsIn K mainGlobals "list" = some none)
    (z7 : PySem.W.nsIn K mainGlobals "isinstance" = some none)
    (z8 : PySem.W.nsIn K mainGlobals "int" = some none)
    (z9 : PySem.W.nsIn K mainGlobals "bool" = some none)
    (z10 : PySem.W.nsIn K mainGlobals "tuple" = some none)
    (z11 : PySem.W.nsIn K mainGlobals "enumerate" = some none)
    (z12 : PySem.W.nsIn K mainGlobals "str" = some none)
    (z13 : PySem.W.nsIn K mainGlobals "ValueError" = some none)
    {w1 : Value} (d1 : PySem.W.nsIn K mainGlobals "MOST_KNOTS" = some (some w1)) (e1 : ∃ t, w1 = Value.int 40 t)
    (q3 : badIn K c_BadHedge c_HedgeError f1 = true)
    (q5 : plainIn K c_BadText c_HedgeError = true)
    : ∃ fd : FuncData, (∀ (s : Shared) (v : Value), BindsTo s fd ⟨[v], []⟩ [("_law_script", v)]) ∧ ∀ base : Heap, K.In base → base.Ns mainGlobals mg → FnOk l.prog w K mg base CX0 6 fa fd ["_law_script"] (spLaw K) := by
  have e := hfa.symm.trans (PySem.W.mg_of X G a20)
  cases e
  have F1 := fun_mk (st := sInit) l1 c1 k1
  have b1 := F1.binds (ps := ["self", "at"]) fun _ _ _ _ _ _ us hl => match us, hl with | [_, _], _ => rfl
  have F2 := fun_mk (st := sIsN) l2 c2 k2
  have b2 := F2.binds (ps := ["thing"]) fun _ _ _ _ _ _ us hl => match us, hl with | [_], _ => rfl
  have m2 := PySem.W.mg_of X G a2
  have F3 := fun_mk (st := sIsF) l3 c3 k3
  have b3 := F3.binds (ps := ["thing"]) fun _ _ _ _ _ _ us hl => match us, hl with | [_], _ => rfl
  have m3 := PySem.W.mg_of X G a3
  have F4 := fun_mk (st := sIsR) l4 c4 k4
  have b4 := F4.binds (ps := ["thing", "many"]) fun _ _ _ _ _ _ us hl => match us, hl with | [_, _], _ => rfl
  have m4 := PySem.W.mg_of X G a4
  have F5 := fun_mk (st := sMerged) l5 c5 k5
  have b5 := F5.binds (ps := ["homes", "rod"]) fun _ _ _ _ _ _ us hl => match us, hl with | [_, _], _ => rfl
  have m5 := PySem.W.mg_of X G a5
  have F6 := fun_mk (st := sChecked) l6 c6 k6
  have b6 := F6.binds (ps := ["hedge"]) fun _ _ _ _ _ _ us hl => match us, hl with | [_], _ => rfl
  have m6 := PySem.W.mg_of X G a6
  have F7 := fun_mk (st := sShown) l7 c7 k7
  have b7 := F7.binds (ps := ["hedge"]) fun _ _ _ _ _ _ us hl => match us, hl with | [_], _ => rfl
  have m7 := PySem.W.mg_of X G a7
  have F8 := fun_mk (st := sNRead) l8 c8 k8
  have b8 := F8.binds (ps := ["word"]) fun _ _ _ _ _ _ us hl => match us, hl with | [_], _ => rfl
  have m8 := PySem.W.mg_of X G a8
  have F9 := fun_mk (st := sRRead) l9 c9 k9
  have b9 := F9.binds (ps := ["word"]) fun _ _ _ _ _ _ us hl => match us, hl with | [_], _ => rfl
  have m9 := PySem.W.mg_of X G a9
  have F10 := fun_mk (st := sRead) l10 c10 k10
  have b10 := F10.binds (ps := ["text"]) fun _ _ _ _ _ _ us hl => match us, hl with | [_], _ => rfl
  have m10 := PySem.W.mg_of X G a10
  have F11 := fun_mk (st := sCell) l11 c11 k11
  have b11 := F11.binds (ps := ["_law_script", "_law_k"]) fun _ _ _ _ _ _ us hl => match us, hl with | [_, _], _ => rfl
  have m11 := PySem.W.mg_of X G a11
  have F12 := fun_mk (st := sMix) l12 c12 k12
  have b12 := F12.binds (ps := ["_law_cell_here", "_law_prime", "_law_many"]) fun _ _ _ _ _ _ us hl => match us, hl with | [_, _, _], _ => rfl
  have m12 := PySem.W.mg_of X G a12
  have F13 := fun_mk (st := sLarge) l13 c13 k13
  have b13 := F13.binds (ps := ["_law_script"]) fun _ _ _ _ _ _ us hl => match us, hl with | [_], _ => rfl
  have m13 := PySem.W.mg_of X G a13
  have F14 := fun_mk (st := sOrder) l14 c14 k14
  have b14 := F14.binds (ps := ["_law_script", "_law_at", "_law_many"]) fun _ _ _ _ _ _ us hl => match us, hl with | [_, _, _], _ => rfl
  have m14 := PySem.W.mg_of X G a14
  have F15 := fun_mk (st := sHedge) l15 c15 k15
  have b15 := F15.binds (ps := ["_law_script", "_law_at"]) fun _ _ _ _ _ _ us hl => match us, hl with | [_, _], _ => rfl
  have m15 := PySem.W.mg_of X G a15
  have F16 := fun_mk (st := sRefd) l16 c16 k16
  have b16 := F16.binds (ps := ["_law_text"]) fun _ _ _ _ _ _ us hl => match us, hl with | [_], _ => rfl
  have m16 := PySem.W.mg_of X G a16
  have F17 := fun_mk (st := sByB) l17 c17 k17
  have b17 := F17.binds (ps := ["_law_text"]) fun _ _ _ _ _ _ us hl => match us, hl with | [_], _ => rfl
  have m17 := PySem.W.mg_of X G a17
  have F18 := fun_mk (st := sNone) l18 c18 k18
  have b18 := F18.binds (ps := ["_law_text", "_law_manner"]) fun _ _ _ _ _ _ us hl => match us, hl with | [_, _], _ => rfl
  have m18 := PySem.W.mg_of X G a18
  have F19 := fun_mk (st := sSpo) l19 c19 k19
  have b19 := F19.binds (ps := ["_law_text", "_law_manner", "_law_place", "_law_sign"]) fun _ _ _ _ _ _ us hl => match us, hl with | [_, _, _, _], _ => rfl
  have m19 := PySem.W.mg_of X G a19
  have F20 := fun_mk (st := sLaw) l20 c20 k20
  have b20 := F20.binds (ps := ["_law_script"]) fun _ _ _ _ _ _ us hl => match us, hl with | [_], _ => rfl
  have m20 := PySem.W.mg_of X G a20
  have n_len := PySem.W.mg_none_of X G z1
  have n_range := PySem.W.mg_none_of X G z2
  have n_sorted := PySem.W.mg_none_of X G z3
  have n_max := PySem.W.mg_none_of X G z4
  have n_min := PySem.W.mg_none_of X G z5
  have n_list := PySem.W.mg_none_of X G z6
  have n_isinstance := PySem.W.mg_none_of X G z7
  have n_int := PySem.W.mg_none_of X G z8
  have n_bool := PySem.W.mg_none_of X G z9
  have n_tuple := PySem.W.mg_none_of X G z10
  have n_enumerate := PySem.W.mg_none_of X G z11
  have n_str := PySem.W.mg_none_of X G z12
  have n_ValueError := PySem.W.mg_none_of X G z13
  obtain ⟨tk1, rfl⟩ := e1
  have mc_MOST_KNOTS := PySem.W.mg_of X G d1
  refine ⟨PySem.W.fnOf "law" "law" (defArgs sLaw) (defBody sLaw) (defScope sLaw) .none kV20 dc20 pm20 an20 cd20 ct20, fun s v => .of_eq rfl, fun base XB _ => ?_⟩
  obtain ⟨BC, TC⟩ := bad_of (base := base) XB q3 (PySem.W.mg_of X G q1) (PySem.W.mg_of X G q2)
  have BT := plain_of (base := base) (x := "BadText") (y := "HedgeError") XB q5 (PySem.W.mg_of X G q4) (PySem.W.mg_of X G q2)
  have C1 := ok_cell (P := l.prog) (w := w) (base := base) (k := 0) F11 n_len
  have C2 := ok_cell (P := l.prog) (w := w) (base := base) (k := 1) F11 n_len
  have C5 := C1.mono (show 1 ≤ 5 by decide)
  have M1 := ok_mix (P := l.prog) (w := w) (mg := mg) (base := base) (k := 0) F12
  have M2 := ok_mix (P := l.prog) (w := w) (mg := mg) (base := base) (k := 1) F12
  have L2' := ok_large (k := 1) F13 C1 b11 k11 m11 M1 b12 k12 m12 n_len
  have O2 := ok_order (k := 1) F14 C1 b11 k11 m11 M1 b12 k12 m12 n_range n_sorted
  have H5 := (ok_hedge (k := 2) F15 C2 b11 k11 m11 M2 b12 k12 m12 L2' b13 k13 m13 O2 b14 k14 m14 n_len n_range n_sorted n_max n_min).mono (show 3 ≤ 5 by decide)
  have N1 := ok_isN (P := l.prog) (w := w) (base := base) (k := 0) F2 n_isinstance n_int n_bool
  have Fm := ok_isF (k := 1) F3 N1 b2 k2 m2 n_isinstance n_tuple n_list n_len mc_MOST_KNOTS
  have Rd := ok_isR (k := 1) F4 N1 b2 k2 m2 n_isinstance n_tuple n_len
  have Mg := ok_merged (P := l.prog) (w := w) (mg := mg) (base := base) (k := 1) F5
  have In := ok_init (P := l.prog) (w := w) (k := 0) F1 BC
  have Ck := ok_ck (k := 1) F6 Fm b3 k3 m3 Rd b4 k4 m4 Mg b5 k5 m5 In b1 BC n_list n_range n_enumerate
  have Nr2 := ok_nr (P := l.prog) (w := w) (k := 1) F8 BT n_str n_range mc_MOST_KNOTS
  have Nr3 := Nr2.mono (show 2 ≤ 3 by decide)
  have Rr := ok_rr (k := 2) F9 Nr2 b8 k8 m8
  have Re := ok_rd (k := 3) F10 BT BC TC Nr3 b8 k8 m8 Rr b9 k9 m9 Ck b6 k6 m6 n_isinstance n_str
  have Re5 := Re.mono (show 4 ≤ 5 by decide)
  have Rf := ok_refd (k := 4) F16 BT Re b10 k10 m10
  have Bb := ok_byb (k := 4) F17 BT Re b10 k10 m10 n_isinstance n_ValueError
  have No := ok_none (P := l.prog) (w := w) (mg := mg) (base := base) (k := 4) F18
  have Sp := ok_spo (P := l.prog) (w := w) (base := base) (k := 4) F19 n_len
  have Sh := ok_shown (P := l.prog) (w := w) (base := base) (k := 4) F7 n_str
  exact ok_law (k := 5) F20 H5 b15 k15 m15 Sh b7 k7 m7 C5 b11 k11 m11 Rf b16 k16 m16 Bb b17 k17 m17 No b18 k18 m18 Sp b19 k19 m19 Re5 b10 k10 m10
theorem walk {l : PySem.W.OpenLaw} {q : Program} {loose : List Str} {XP : (Str → Option Value) → Heap → Prop} {YP : World → Heap → Prop} {d : DefRec} {K : Params → PySem.W.Frag} (hn : l.most = some 63) (hdf : d.params.defaults = [])
    (hY : ∀ (w : World) (h : Heap), YP w h → (K w.params).In h)
    (F : ∀ (w : World) (mg : Str → Option Value) (fa : Addr) (h : Heap), (K w.params).In h → h.Ns mainGlobals mg → mg d.name = some (.ref fa) →
      ∃ fd : FuncData, (∀ (s : Shared) (u : Value), BindsTo s fd ⟨[u], []⟩ [("_law_script", u)]) ∧ ∀ base : Heap, (K w.params).In base → base.Ns mainGlobals mg → FnOk l.prog w (K w.params) mg base CX0 6 fa fd ["_law_script"] (spLaw (K w.params))) :
    PySem.W.WalkO q loose XP YP l.row.toRowW d [] (fun f vs => PySem.call f vs) :=
  L2.walk_of (n := 63) (k := 6) (x := "_law_script") (CX := fun _ => CX0) (sp := fun w => spLaw (K w.params)) hn (by decide) hdf ⟨rfl, by decide, by decide⟩ hY F (fun _ _ a ns hl _ hS => ⟨a, ns, rfl, hS, hl, fun _ => rfl⟩) fun _ _ _ _ _ z => z
end Hd
open PySem PySem.W PyProof.Rows
set_option maxRecDepth 100000 in
set_option maxHeartbeats 0 in
theorem PySem.Challenge.cw_hedgerow_k05_spoilt_texts_holds : PySem.Challenge.rw_hedgerow_k05_spoilt_texts.Holds := by
  w_on; o_law; k_head; (case hw => w_witness2)
  k_fill
  refine Hd.walk (l := PySem.Challenge.rw_hedgerow_k05_spoilt_texts) rfl rfl (fun w h Y => PySem.W.kIn_of Y) ?F
  case F =>
    intro w mg fa h KX G hmg
    refine' Hd.all_mk KX G hmg ?q1 ?q2 ?q4 ?a1 ?l1 ?c1 ?k1 ?a2 ?l2 ?c2 ?k2 ?a3 ?l3 ?c3 ?k3 ?a4 ?l4 ?c4 ?k4 ?a5 ?l5 ?c5 ?k5 ?a6 ?l6 ?c6 ?k6 ?a7 ?l7 ?c7 ?k7 ?a8 ?l8 ?c8 ?k8 ?a9 ?l9 ?c9 ?k9 ?a10 ?l10 ?c10 ?k10 ?a11 ?l11 ?c11 ?k11 ?a12 ?l12 ?c12 ?k12 ?a13 ?l13 ?c13 ?k13 ?a14 ?l14 ?c14 ?k14 ?a15 ?l15 ?c15 ?k15 ?a16 ?l16 ?c16 ?k16 ?a17 ?l17 ?c17 ?k17 ?a18 ?l18 ?c18 ?k18 ?a19 ?l19 ?c19 ?k19 ?a20 ?l20 ?c20 ?k20 ?z1 ?z2 ?z3 ?z4 ?z5 ?z6 ?z7 ?z8 ?z9 ?z10 ?z11 ?z12 ?z13 ?d1 ?e1 ?q3 ?q5
    (case q1 => k_is); (case q2 => k_is); (case q4 => k_is)
    (case a1 => k_is); (case l1 => k_is); (case c1 => k_is); (case k1 => k_is)
    (case a2 => k_is); (case l2 => k_is); (case c2 => k_is); (case k2 => k_is)
    (case a3 => k_is); (case l3 => k_is); (case c3 => k_is); (case k3 => k_is)
    (case a4 => k_is); (case l4 => k_is); (case c4 => k_is); (case k4 => k_is)
    (case a5 => k_is); (case l5 => k_is); (case c5 => k_is); (case k5 => k_is)
    (case a6 => k_is); (case l6 => k_is); (case c6 => k_is); (case k6 => k_is)
    (case a7 => k_is); (case l7 => k_is); (case c7 => k_is); (case k7 => k_is)
    (case a8 => k_is); (case l8 => k_is); (case c8 => k_is); (case k8 => k_is)
    (case a9 => k_is); (case l9 => k_is); (case c9 => k_is); (case k9 => k_is)
    (case a10 => k_is); (case l10 => k_is); (case c10 => k_is); (case k10 => k_is)
    (case a11 => k_is); (case l11 => k_is); (case c11 => k_is); (case k11 => k_is)
    (case a12 => k_is); (case l12 => k_is); (case c12 => k_is); (case k12 => k_is)
    (case a13 => k_is); (case l13 => k_is); (case c13 => k_is); (case k13 => k_is)
    (case a14 => k_is); (case l14 => k_is); (case c14 => k_is); (case k14 => k_is)
    (case a15 => k_is); (case l15 => k_is); (case c15 => k_is); (case k15 => k_is)
    (case a16 => k_is); (case l16 => k_is); (case c16 => k_is); (case k16 => k_is)
    (case a17 => k_is); (case l17 => k_is); (case c17 => k_is); (case k17 => k_is)
    (case a18 => k_is); (case l18 => k_is); (case c18 => k_is); (case k18 => k_is)
    (case a19 => k_is); (case l19 => k_is); (case c19 => k_is); (case k19 => k_is)
    (case a20 => k_is); (case l20 => k_is); (case c20 => k_is); (case k20 => k_is)
    (case z1 => k_is)
    (case z2 => k_is)
    (case z3 => k_is)
    (case z4 => k_is)
    (case z5 => k_is)
    (case z6 => k_is)
    (case z7 => k_is)
    (case z8 => k_is)
    (case z9 => k_is)
    (case z10 => k_is)
    (case z11 => k_is)
    (case z12 => k_is)
    (case z13 => k_is)
    (case d1 => k_is); (case e1 => exact ⟨_, rfl⟩)
    (case q3 => kernel_rfl); (case q5 => kernel_rfl)
