import PyProof.Rows.All
import Wide.All
import OpenK.AllK
import Wide.FinOn
import Lean
import PyProof.EqAt
import PyProof.EqKinds
import PyProof.TupleCall
import PyProof.NeKinds
import KE.KRevIter
import PyProof.EnumStmt
import PyProof.StationsW
import PyProof.ExcClass3
import PyProof.InstStoreFacts
import PyProof.StrCalls
import PyProof.StrCalls2
import PyProof.StrWalks
import PyProof.StrBlockG
import PyProof.ConsumeWalk
import PyProof.StrOps2
import KE.KIntText
import KE.IntTextText
import PyProof.JoinWalk
import PyProof.CollectIter
import PyProof.StrLawsTight
import PyProof.StrLawsChain
import PyProof.Conv_int_bool
import PyProof.MinMaxWalk
import PyProof.WalksMore
import PyProof.WalkInts
import PyProof.ZipIter
import PyProof.DictWalks
import PySem.Challenge.RW_heightfractions_k24_known_weights_told_b
set_option Elab.async false
set_option linter.all false
set_option maxRecDepth 100000
set_option maxHeartbeats 4000000
namespace L2
open PySem PySem.Spec PyProof.Rows
abbrev Key := Sum Int Str
def keyIs : Key → Value → Bool
  | .inl k, v => Value.isInt k v
  | .inr x, v => Value.isStrOf x v
def keyH (w : World) : Key → Int
  | .inl k => hashInt k
  | .inr x => hashStr w x
theorem keyIs_shape : ∀ {k : Key} {v : Value}, keyIs k v = true → (∃ i t, k = Sum.inl i ∧ v = Value.int i t) ∨ (∃ x t, k = Sum.inr x ∧ v = Value.str x t)
  | .inl i, v, h => by
    obtain ⟨t, e⟩ := Value.isInt_shape (k := i) (v := v) h
    exact .inl ⟨i, t, rfl, e⟩
  | .inr x, v, h => by
    obtain ⟨t, e⟩ := Value.isStrOf_shape (x := x) (v := v) h
    exact .inr ⟨x, t, rfl, e⟩
theorem key_ll (a b : Int) : decide ((Sum.inl a : Key) = Sum.inl b) = (a == b) := by
  by_cases e : a = b
  · subst e; simp
  · have h : ¬ (Sum.inl a : Key) = Sum.inl b := fun q => e (Sum.inl.inj q)
    rw [decide_eq_false h]
    exact (beq_eq_false_iff_ne.mpr e).symm
theorem key_rr (a b : Str) : decide ((Sum.inr a : Key) = Sum.inr b) = decide (a = b) := by
  by_cases e : a = b
  · subst e; simp
  · have h : ¬ (Sum.inr a : Key) = Sum.inr b := fun q => e (Sum.inr.inj q)
    rw [decide_eq_false h, decide_eq_false e]
theorem key_lr (a : Int) (b : Str) : decide ((Sum.inl a : Key) = Sum.inr b) = false := decide_eq_false (fun q => nomatch q)
theorem key_rl (a : Str) (b : Int) : decide ((Sum.inr a : Key) = Sum.inl b) = false := decide_eq_false (fun q => nomatch q)
def mixKind (prog : Program) (w : World) : PySem.KeyKind prog w Key where
  is := keyIs
  hash := keyH w
  inj := fun v a b ha hb => by
    rcases keyIs_shape ha with ⟨i, t, rfl, rfl⟩ | ⟨x, t, rfl, rfl⟩
    · rcases keyIs_shape hb with ⟨j, u, rfl, e⟩ | ⟨y, u, rfl, e⟩
      · injection e with e1 _; rw [e1]
      · exact nomatch e
    · rcases keyIs_shape hb with ⟨j, u, rfl, e⟩ | ⟨y, u, rfl, e⟩
      · exact nomatch e
      · injection e with e1 _; rw [e1]
  byValue := fun k v h => by
    rcases keyIs_shape h with ⟨i, t, rfl, rfl⟩ | ⟨x, t, rfl, rfl⟩ <;> rfl
  pyHash := fun hv h => by
    rcases keyIs_shape hv with ⟨i, t, rfl, rfl⟩ | ⟨x, t, rfl, rfl⟩
    · exact wpAny_pyHash_int h
    · exact wpAny_pyHash_str h
  eqBool := fun hu hv h => by
    rcases keyIs_shape hu with ⟨i, t, rfl, rfl⟩ | ⟨x, t, rfl, rfl⟩
    · rcases keyIs_shape hv with ⟨j, u, rfl, rfl⟩ | ⟨y, u, rfl, rfl⟩
      · rw [key_ll] at h; exact wpAny_eqBool_int h
      · rw [key_lr] at h; exact SeqAt.EqAt.int_str i t y u _ _ _ _ h
    · rcases keyIs_shape hv with ⟨j, u, rfl, rfl⟩ | ⟨y, u, rfl, rfl⟩
      · rw [key_rl] at h; exact SeqAt.EqAt.str_int x t j u _ _ _ _ h
      · rw [key_rr] at h; exact wpAny_eqBool_str h
  «strs» := fun k x t v h => by
    rcases keyIs_shape h with ⟨i, u, rfl, e⟩ | ⟨y, u, rfl, e⟩
    · exact nomatch e
    · injection e with e1 _
      subst e1
      cases v <;> rfl
end L2
namespace L2
open PySem PySem.Spec PyProof.Rows
inductive V where
  | non | bl (b : Bool) | int (i : Int) | str (x : Str) | byt (b : Array UInt8) | flt (b : UInt64) | ref (a : Addr) | ty (n : String)
  deriving DecidableEq
def RelV : V → Value → Prop
  | .non, u => u = Value.none
  | .bl b, u => u = Value.bool b
  | .int i, u => ∃ t, u = Value.int i t
  | .str x, u => ∃ t, u = Value.str x t
  | .byt b, u => ∃ t, u = Value.bytes b t
  | .flt b, u => ∃ t, u = Value.float b t
  | .ref a, u => u = Value.ref a
  | .ty n, u => u = Value.type n
abbrev Vals : List V → List Value → Prop := Paired RelV
theorem Vals.length {xs : List V} {us : List Value} (r : Vals xs us) : xs.length = us.length := Paired.length r
theorem Vals.get : ∀ {xs : List V} {us : List Value} {i : Nat} {x : V}, Vals xs us → xs[i]? = some x → ∃ u, us[i]? = some u ∧ RelV x u
  | _, _, _, _, .nil, e => by simp at e
  | _, _, 0, _, .cons r _, e => by simp at e; subst e; exact ⟨_, rfl, r⟩
  | _, _, i + 1, x, .cons _ t, e => by
    obtain ⟨u, h1, h2⟩ := Vals.get (i := i) (x := x) t (by simpa using e)
    exact ⟨u, by simpa using h1, h2⟩
theorem Vals.set {x : V} {u : Value} (r : RelV x u) : ∀ {xs : List V} {us : List Value} (i : Nat), Vals xs us → Vals (xs.set i x) (us.set i u)
  | _, _, _, .nil => .nil
  | _, _, 0, .cons _ t => .cons r t
  | _, _, i + 1, .cons q t => .cons q (Vals.set r i t)
theorem Vals.append : ∀ {xs ys : List V} {us ws : List Value}, Vals xs us → Vals ys ws → Vals (xs ++ ys) (us ++ ws)
  | _, _, _, _, .nil, s => s
  | _, _, _, _, .cons r t, s => .cons r (Vals.append t s)
theorem Vals.take : ∀ {xs : List V} {us : List Value} (n : Nat), Vals xs us → Vals (xs.take n) (us.take n)
  | _, _, 0, _ => .nil
  | _, _, _ + 1, .nil => .nil
  | _, _, n + 1, .cons r t => .cons r (Vals.take n t)
theorem Vals.drop : ∀ {xs : List V} {us : List Value} (n : Nat), Vals xs us → Vals (xs.drop n) (us.drop n)
  | _, _, 0, r => r
  | _, _, _ + 1, .nil => .nil
  | _, _, n + 1, .cons _ t => Vals.drop n t
def RelO : Option V → Option Value → Prop
  | some v, some u => RelV v u
  | none, none => True
  | _, _ => False
def KV {κ : Type} : List (κ × V) → List (κ × Value) → Prop := Paired fun (p : κ × V) (q : κ × Value) => p.1 = q.1 ∧ RelV p.2 q.2
def kV : Key → V
  | .inl i => .int i
  | .inr x => .str x
inductive HO where
  | lst (xs : List V)
  | tup (xs : List V)
  | dK (kvs : List (Key × V)) | dT (kvs : List (List Key × V))
  | set (S : Int → Bool) (n : Nat)
  | ins (C dx : Addr) (fs : List (Str × V))
  | own (x : Addr)
  | xd (fs : List (Str × V))
  | met (f x : Addr)
  | rng (lo hi : Int)
  | frz (o : Obj) (u : HO)
  | tbl (ps : Array Value)
  | ext (φ : Heap → Prop)
abbrev Hp := Addr → Option HO
def upd (H : Hp) (a : Addr) (o : HO) : Hp := fun b => if b = a then some o else H b
theorem upd_same {H : Hp} {a : Addr} {o : HO} : upd H a o a = some o := by unfold upd; rw [if_pos rfl]
theorem upd_ne {H : Hp} {a b : Addr} {o : HO} (h : b ≠ a) : upd H a o b = H b := by unfold upd; rw [if_neg h]
theorem ne_of_none {H : Hp} {a b : Addr} {o : HO} (h : H a = some o) (h' : H b = none) : a ≠ b := by
  intro e; subst e; rw [h] at h'; cases h'
section
variable (P : Program) (w : World)
def ObjOk (H : Hp) (h : Heap) (a : Addr) : HO → Prop
  | .lst xs => xs.length ≤ sizeLine ∧ ∃ (its : List Value) (n : Nat), Vals xs its ∧ h.get? a = some { cls := .type "list", data := .seq its.toArray n }
  | .tup xs => xs.length ≤ sizeLine ∧ ∃ its : List Value, Vals xs its ∧ IsTup h a its.toArray
  | .dK kvs => kvs.length ≤ sizeLine ∧ (a == sysModules) = false ∧ ∃ vs, KV kvs vs ∧ h.DictOf (mixKind P w) a vs
  | .dT kvs => kvs.length ≤ sizeLine ∧ (a == sysModules) = false ∧ ∃ xs : List (List Key × Addr × Value),
      Paired (fun (p : List Key × V) (q : List Key × Addr × Value) => p.1 = q.1 ∧ H q.2.1 = some (.tup (p.1.map kV)) ∧ RelV p.2 q.2.2) kvs xs ∧
      ∃ o es ep, h.get? a = some o ∧ o.ExactDict ∧ o.data = .dict es ep ∧ es.toList = xs.map (entryOfKey (tupleKind (mixKind P w))) ∧ (xs.map (·.1)).Nodup
  | .set S n => h.SetOf (intKind P w) a S n
  | .ins C dx fs => H dx = some (.own a) ∧ fs.length ≤ 1000 ∧ dx ≠ a ∧ h.get? a = some (PySem.W.instObj C dx) ∧
      ∃ mA, h.Ns1 dx mA ∧ (∀ f, RelO (fs.lookup f) (mA f)) ∧ PySem.Within mA (fs.map (·.1))
  | .own _ => ∃ o, h.get? a = some o
  | .xd fs => ∃ mA, h.Ns1 a mA ∧ ∀ f, RelO (fs.lookup f) (mA f)
  | .rng lo hi => ∃ t u v, h.get? a = some { cls := .type "range", data := .fields #[.int lo t, .int hi u, .int 1 v] }
  | .frz o u => h.get? a = some o ∧ ObjOk H h a u
  | .tbl ps => h.get? a = some { cls := .none, data := .fields ps }
  | .met f x => h.get? a = some (PySem.W.methodObj (.ref f) (.ref x))
  | .ext φ => φ h ∧ (∃ o, h.get? a = some o) ∧ ∀ h1 h2 : Heap, φ h1 → (∀ o, h1.get? a = some o → h2.get? a = some o) → φ h2
def HOk (H : Hp) (h : Heap) : Prop := ∀ a o, H a = some o → ObjOk P w H h a o
end
section
variable {P : Program} {w : World} {H H' : Hp} {h h' : Heap} {a : Addr} {o : HO}
theorem ObjOk.lt (x : ObjOk P w H h a o) : a < h.objs.size := by
  cases o with
  | lst xs => obtain ⟨_, _, _, _, e⟩ := x; exact Heap.lt_size e
  | tup xs => obtain ⟨_, _, _, p⟩ := x; exact p.lt
  | dK kvs => obtain ⟨_, _, _, _, o, _, _, e, _⟩ := x; exact Heap.lt_size e
  | dT kvs => obtain ⟨_, _, _, _, o, _, _, e, _⟩ := x; exact Heap.lt_size e
  | set S n => obtain ⟨o, _, _, _, e, _⟩ := x; exact Heap.lt_size e
  | ins C dx fs => obtain ⟨_, _, _, e, _⟩ := x; exact Heap.lt_size e
  | own y => obtain ⟨_, e⟩ := x; exact Heap.lt_size e
  | xd fs => obtain ⟨_, ⟨_, _, _, e, _⟩, _⟩ := x; exact Heap.lt_size e
  | rng lo hi => obtain ⟨_, _, _, e⟩ := x; exact Heap.lt_size e
  | frz ob u => obtain ⟨e, _⟩ := x; exact Heap.lt_size e
  | tbl ps => exact Heap.lt_size (show h.get? a = some _ from x)
  | met f y => exact Heap.lt_size (show h.get? a = some _ from x)
  | ext φ => obtain ⟨_, ⟨_, e⟩, _⟩ := x; exact Heap.lt_size e
theorem Paired.mapP {α β : Type} {F G : α → β → Prop} : ∀ {l₁ : List α} {l₂ : List β}, Paired F l₁ l₂ → (∀ a b, F a b → G a b) → Paired G l₁ l₂
  | _, _, .nil, _ => .nil
  | _, _, .cons r t, f => .cons (f _ _ r) (Paired.mapP t f)
theorem ObjOk.stay (x : ObjOk P w H h a o) (k : ∀ b u, (b = a ∨ H b = some (.own a)) → h.get? b = some u → h'.get? b = some u)
    (ho : ∀ b, H b = some (.own a) → H' b = some (.own a)) (ht : ∀ b xs, H b = some (.tup xs) → H' b = some (.tup xs)) : ObjOk P w H' h' a o := by
  induction o with
  | lst xs => obtain ⟨z, its, n, r, e⟩ := x; exact ⟨z, its, n, r, k _ _ (.inl rfl) e⟩
  | tup xs => obtain ⟨z, its, r, ob, e, c⟩ := x; exact ⟨z, its, r, ob, k _ _ (.inl rfl) e, c⟩
  | dK kvs => obtain ⟨z, y, vs, r, ob, es, ep, e, c⟩ := x; exact ⟨z, y, vs, r, ob, es, ep, k _ _ (.inl rfl) e, c⟩
  | dT kvs =>
    obtain ⟨z, y, xs, r, ob, es, ep, e, c⟩ := x
    exact ⟨z, y, xs, Paired.mapP r fun p q z => ⟨z.1, ht _ _ z.2.1, z.2.2⟩, ob, es, ep, k _ _ (.inl rfl) e, c⟩
  | set S n => obtain ⟨ob, es, ep, t, e, c⟩ := x; exact ⟨ob, es, ep, t, k _ _ (.inl rfl) e, c⟩
  | ins C dx fs =>
    obtain ⟨d, z, ne, e, mA, ⟨od, es, ep, e2, c⟩, r⟩ := x
    exact ⟨ho _ d, z, ne, k _ _ (.inl rfl) e, mA, ⟨od, es, ep, k _ _ (.inr d) e2, c⟩, r⟩
  | own y => obtain ⟨ob, e⟩ := x; exact ⟨ob, k _ _ (.inl rfl) e⟩
  | xd fs => obtain ⟨mA, ⟨od, es, ep, e, c⟩, r⟩ := x; exact ⟨mA, ⟨od, es, ep, k _ _ (.inl rfl) e, c⟩, r⟩
  | rng lo hi => obtain ⟨t, u, v, e⟩ := x; exact ⟨t, u, v, k _ _ (.inl rfl) e⟩
  | frz ob u ih => obtain ⟨e, q⟩ := x; exact ⟨k _ _ (.inl rfl) e, ih q⟩
  | tbl ps =>
    have e : h.get? a = some { cls := .none, data := .fields ps } := x
    show h'.get? a = some { cls := .none, data := .fields ps }
    exact k a _ (.inl rfl) e
  | met f y =>
    have e : h.get? a = some (PySem.W.methodObj (.ref f) (.ref y)) := x
    show h'.get? a = some (PySem.W.methodObj (.ref f) (.ref y))
    exact k a _ (.inl rfl) e
  | ext φ => obtain ⟨p, ⟨o, e⟩, st⟩ := x; exact ⟨st _ _ p fun o q => k _ _ (.inl rfl) q, ⟨o, k _ _ (.inl rfl) e⟩, st⟩
theorem HOk.lt (x : HOk P w H h) (e : H a = some o) : a < h.objs.size := (x a o e).lt
theorem HOk.fresh (x : HOk P w H h) (e : h.objs.size ≤ a) : H a = none := by
  cases q : H a with
  | none => rfl
  | some u => exact absurd (Nat.lt_of_lt_of_le (x.lt q) e) (Nat.lt_irrefl _)
theorem HOk.kept (x : HOk P w H h) (k : ∀ b u, h.get? b = some u → h'.get? b = some u) : HOk P w H h' := fun a o e =>
  (x a o e).stay (fun b u _ q => k b u q) (fun _ q => q) fun _ _ q => q
theorem HOk.laid (x : HOk P w H h) (k : ∀ b u, h.get? b = some u → h'.get? b = some u) (hp : h.objs.size ≤ a) (new : ObjOk P w (upd H a o) h' a o) : HOk P w (upd H a o) h' := fun b u e => by
  have hn := x.fresh hp
  by_cases hb : b = a
  · subst hb; rw [upd_same] at e; cases e; exact new
  · rw [upd_ne hb] at e
    exact (x b u e).stay (fun c v _ q => k c v q) (fun c q => by rw [upd_ne (ne_of_none q hn)]; exact q) fun c xs q => by rw [upd_ne (ne_of_none q hn)]; exact q
end
def Rd (H : Hp) (a : Addr) (u : HO) : Prop := H a = some u ∨ ∃ o, H a = some (.frz o u)
theorem Rd.of {H : Hp} {a : Addr} {u : HO} (h : H a = some u) : Rd H a u := .inl h
theorem Rd.ok {P : Program} {w : World} {H : Hp} {h : Heap} {a : Addr} {u : HO} (r : Rd H a u) (x : HOk P w H h) : ObjOk P w H h a u := by
  rcases r with r | ⟨o, r⟩
  · exact x a u r
  · obtain ⟨_, q⟩ := x a _ r
    exact q
def Mut : Option HO → Prop
  | some (.lst _) => True
  | some (.dK _) => True
  | some (.dT _) => True
  | some (.set _ _) => True
  | some (.ins _ _ _) => True
  | some (.ext _) => True
  | _ => False
section
variable {P : Program} {w : World} {H : Hp} {h h' : Heap} {x e : Addr} {o' : HO}
theorem HOk.write (ok : HOk P w H h) (mu : Mut (H x)) (he : e = x ∨ H e = some (.own x)) (k : ∀ b u, b ≠ e → h.get? b = some u → h'.get? b = some u) (heo : ∃ u, h'.get? e = some u)
    (new : ObjOk P w (upd H x o') h' x o') : HOk P w (upd H x o') h' := fun b u q => by
  have nown : ∀ c y, H c = some (.own y) → c ≠ x := fun c y r z => by subst z; rw [r] at mu; exact mu
  have ntup : ∀ c xs, H c = some (.tup xs) → c ≠ x := fun c xs r z => by subst z; rw [r] at mu; exact mu
  by_cases hb : b = x
  · subst hb; rw [upd_same] at q; cases q; exact new
  · rw [upd_ne hb] at q
    by_cases hbe : b = e
    · have q' : H b = some (.own x) := by
        rcases he with z | z
        · exact absurd (hbe.trans z) hb
        · rw [hbe]; exact z
      rw [q] at q'; cases q'
      obtain ⟨v, hv⟩ := heo
      exact ⟨v, by rw [hbe]; exact hv⟩
    · refine (ok b u q).stay (fun c v hc r => k c v ?_ r) (fun c r => by rw [upd_ne (nown c b r)]; exact r) fun c xs r => by rw [upd_ne (ntup c xs r)]; exact r
      rcases hc with rfl | hc
      · exact hbe
      · rintro rfl
        rcases he with z | z
        · exact nown c b hc z
        · rw [hc] at z; cases z; exact hb rfl
end
structure Un (fs ex : List Addr) (H H' : Hp) (h h' : Heap) : Prop where
  keep : ∀ b o, h.get? b = some o → H b = none → b ∉ fs → b ∉ ex → h'.get? b = some o
  slot : ∀ b o, h.get? b = some o → H b = none → b ∈ fs → b ∉ ex → ∃ sl, h'.get? b = some { o with slots := sl }
  free : ∀ b o, h.get? b = some o → H b = none → b ∉ ex → H' b = none
  there : ∀ b o, h.get? b = some o → b ∉ ex → ∃ o', h'.get? b = some o'
  tups : ∀ b xs, H b = some (.tup xs) → H' b = some (.tup xs)
  frzs : ∀ b o u, H b = some (.frz o u) → H' b = some (.frz o u)
  tbls : ∀ b ps, H b = some (.tbl ps) → ∃ more, H' b = some (.tbl (ps ++ more))
section
variable {fs fs' ex ex' : List Addr} {H H1 H2 : Hp} {h h1 h2 h' : Heap} {a x e : Addr} {o : HO}
theorem Un.any (u : Un fs ex H H1 h h1) {b : Addr} {ob : Obj} (q : h.get? b = some ob) (n : H b = none) (hx : b ∉ ex) : ∃ sl, h1.get? b = some { ob with slots := sl } := by
  by_cases hb : b ∈ fs
  · exact u.slot b ob q n hb hx
  · exact ⟨ob.slots, u.keep b ob q n hb hx⟩
theorem Un.trans (a : Un fs ex H H1 h h1) (b : Un fs ex H1 H2 h1 h2) : Un fs ex H H2 h h2 where
  keep := fun c ob q n hc hx => b.keep c ob (a.keep c ob q n hc hx) (a.free c ob q n hx) hc hx
  slot := fun c ob q n hc hx => by
    obtain ⟨sl, e1⟩ := a.slot c ob q n hc hx
    obtain ⟨sl', e2⟩ := b.slot c _ e1 (a.free c ob q n hx) hc hx
    exact ⟨sl', e2⟩
  free := fun c ob q n hx => by
    obtain ⟨o', e1⟩ := a.there c ob q hx
    exact b.free c o' e1 (a.free c ob q n hx) hx
  there := fun c ob q hx => by
    obtain ⟨o', e1⟩ := a.there c ob q hx
    exact b.there c o' e1 hx
  tups := fun c xs q => b.tups c xs (a.tups c xs q)
  frzs := fun c ob xs q => b.frzs c ob xs (a.frzs c ob xs q)
  tbls := fun c ps q => by
    obtain ⟨m1, e1⟩ := a.tbls c ps q
    obtain ⟨m2, e2⟩ := b.tbls c _ e1
    exact ⟨m1 ++ m2, by rw [e2, Array.append_assoc]⟩
theorem Un.kept (k : ∀ b u, h.get? b = some u → h'.get? b = some u) : Un fs ex H H h h' :=
  ⟨fun b ob q _ _ _ => k b ob q, fun b ob q _ _ _ => ⟨ob.slots, k b ob q⟩, fun _ _ _ n _ => n, fun b ob q _ => ⟨ob, k b ob q⟩, fun _ _ q => q, fun _ _ _ q => q, fun _ ps q => ⟨#[], by rw [q]; simp⟩⟩
theorem Un.refl : Un fs ex H H h h := Un.kept fun _ _ q => q
theorem Un.laid (k : ∀ b u, h.get? b = some u → h'.get? b = some u) (hp : h.objs.size ≤ a) (hn : H a = none) : Un fs ex H (upd H a o) h h' where
  keep := fun b u q _ _ _ => k b u q
  slot := fun b u q _ _ _ => ⟨u.slots, k b u q⟩
  free := fun b u q n _ => by rw [upd_ne (Nat.ne_of_lt (Nat.lt_of_lt_of_le (Heap.lt_size q) hp))]; exact n
  there := fun b u q _ => ⟨u, k b u q⟩
  tups := fun b xs q => by rw [upd_ne (ne_of_none q hn)]; exact q
  frzs := fun b u xs q => by rw [upd_ne (ne_of_none q hn)]; exact q
  tbls := fun b ps q => ⟨#[], by rw [upd_ne (ne_of_none q hn), q]; simp⟩
theorem Un.write (mu : Mut (H x)) (he : e = x ∨ H e = some (.own x)) (k : ∀ b u, b ≠ e → h.get? b = some u → h'.get? b = some u) (heo : ∃ u, h'.get? e = some u) : Un fs ex H (upd H x o) h h' := by
  have hx : ∀ b, H b = none → b ≠ x := fun b n z => by subst z; rw [n] at mu; exact mu
  have hb : ∀ b, H b = none → b ≠ e := fun b n z => by
    subst z
    rcases he with r | r
    · exact hx b n r
    · rw [n] at r; cases r
  have hm : ∀ b u, H b = some u → ¬ Mut (some u) → b ≠ x := fun b u q nm z => by subst z; rw [q] at mu; exact nm mu
  refine ⟨fun b u q n _ _ => k b u (hb b n) q, fun b u q n _ _ => ⟨u.slots, k b u (hb b n) q⟩, fun b u q n _ => by rw [upd_ne (hx b n)]; exact n, fun b u q _ => ?_,
    fun b xs q => by rw [upd_ne (hm b _ q fun z => z)]; exact q, fun b u xs q => by rw [upd_ne (hm b _ q fun z => z)]; exact q, fun b ps q => ⟨#[], by rw [upd_ne (hm b _ q fun z => z), q]; simp⟩⟩
  by_cases hbe : b = e
  · subst hbe; exact heo
  · exact ⟨u, k b u hbe q⟩
theorem Un.mono (u : Un fs ex H H1 h h1) (hs : ∀ b ∈ fs, b ∈ fs') (hx : ∀ b ∈ ex, b ∈ ex') : Un fs' ex' H H1 h h1 :=
  ⟨fun b ob q n hb he => u.keep b ob q n (fun z => hb (hs b z)) fun z => he (hx b z), fun _ _ q n _ he => u.any q n fun z => he (hx _ z), fun b ob q n he => u.free b ob q n fun z => he (hx b z), fun b ob q he => u.there b ob q fun z => he (hx b z), u.tups, u.frzs, u.tbls⟩
end
def trk (h : Heap) (H : Hp) : List Addr := (List.range h.objs.size).filter fun a => (H a).isSome
def hidT (h : Heap) (H : Hp) : Heap := PySem.W.hideAll h (trk h H)
theorem hidT_size (h : Heap) (H : Hp) : (hidT h H).objs.size = h.objs.size := PySem.W.hideAll_size _ _
theorem hidT_get {h : Heap} {H : Hp} {b : Addr} {o : Obj} (e : h.get? b = some o) (n : H b = none) : (hidT h H).get? b = some o :=
  PySem.W.hideAll_get _ e fun hm => by
    have q : (H b).isSome = true := (List.mem_filter.mp hm).2
    rw [n] at q; simp at q
theorem of_hidT {h : Heap} {H : Hp} {b : Addr} {o : Obj} (e : (hidT h H).get? b = some o) : h.get? b = some o ∧ H b = none := by
  have e' : h.get? b = some o := PySem.W.of_hideAll (trk h H) e
  refine ⟨e', ?_⟩
  cases q : H b with
  | none => rfl
  | some x =>
    have hm : b ∈ trk h H := List.mem_filter.mpr ⟨List.mem_range.mpr (Heap.lt_size e'), by simp [q]⟩
    have z : (hidT h H).get? b = none := PySem.W.hideAll_none (trk h H) hm
    rw [z] at e; cases e
def allNews (g h : Heap) (L : Addr) : List (Addr × Obj) := (List.range h.objs.size).filterMap fun a => if a = L ∨ (g.get? a).isSome = true then none else (h.get? a).map fun o => (a, o)
def rest (g h : Heap) (L d : Addr) : List (Addr × Obj) := (allNews g h L).filter fun p => decide (p.1 ≠ d)
end L2
namespace L2
open PySem PySem.Spec PyProof.Rows
structure Mod (K : PySem.W.Frag) (mg : Str → Option Value) (base : Heap) : Prop where
  kin : K.In base
  glob : base.Ns mainGlobals mg
  blt : ∃ mb, base.Ns builtinsNs mb ∧ ∀ x : Str, x ≠ "__name__" → mb x = bootBuiltins x
  nolimit : base.NoLimit
/-- the context: a def's body (or a comprehension's block) running. base: fixed through the whole law; s₀, H₀: the entry; outer: the frames whose slots others may change (a def's callers); stack: all frames that run;
   ex: iterators that were made ahead of the entry and are walked here (a comprehension's); fn: the names whose cells were made at the entry (a def: all; a comprehension's block: its own); calm: not within an except suite; pn: pins that every state bears; xe: what is wanted of an exception that leaves the code -/
structure Cx where
  prog : Program
  w : World
  K : PySem.W.Frag
  mg : Str → Option Value
  base : Heap
  A : Around
  N : List Str
  s₀ : Shared
  H₀ : Hp
  env : Env
  outer : List Env
  stack : List Env
  ex : List Addr
  fn : Str → Bool
  calm : Bool
  pn : List (Addr × Obj)
  xe : Value → Shared → Prop
def frs (l : List Env) : List Addr := l.filterMap (·.frame)
abbrev Cx.fs (X : Cx) : List Addr := frs X.outer
def Vis (sc : Scope) (x : Str) : Prop := sc.names.lookup x = some .local ∨ sc.names.lookup x = some .cell ∨ sc.names.lookup x = some .free
def Loc (sc : Scope) (x : Str) : Prop := sc.names.lookup x = some .local ∨ sc.names.lookup x = some .cell
def Look (env : Env) (h : Heap) (m : Str → Option Value) (x : Str) (u : Value) : Prop :=
  (env.kindOf x = some .local ∧ m x = some u) ∨ ((env.kindOf x = some .cell ∨ env.kindOf x = some .free) ∧ ∃ c, env.cells.lookup x = some c ∧ h.IsCell c (some u))
structure Cx.Ok (X : Cx) : Prop where
  mod : Mod X.K X.mg X.base
  kind : X.env.scope.kind = .function
  glob : X.env.globals = mainGlobals
  blt : X.env.builtins = builtinsNs
  above : X.s₀.heap.objs.size ≤ X.env.locals
  inj : ∀ x y c, X.env.cells.lookup x = some c → X.env.cells.lookup y = some c → x = y
  has : ∀ x, (X.env.kindOf x = some .cell ∨ X.env.kindOf x = some .free) → ∃ c, X.env.cells.lookup x = some c
  cab : ∀ x c, X.fn x = true → X.env.cells.lookup x = some c → X.s₀.heap.objs.size ≤ c
  hd : X.calm = true → X.A.handled = none
  frames : X.A.frames = some X.stack
  stk : X.stack = X.outer ∨ (X.stack = X.env :: X.outer ∧ X.env.frame = some X.env.locals)
  exf : ∀ b ∈ X.ex, b ≠ X.env.locals ∧ ∀ x c, X.env.cells.lookup x = some c → c ≠ b
  bs : ∀ b o, X.base.get? b = some o → X.s₀.heap.get? b = some o ∧ X.H₀ b = none
  bsz : X.base.objs.size ≤ X.s₀.heap.objs.size
  noex : ∀ b o, X.base.get? b = some o → b ∉ X.ex
  exfs : ∀ b ∈ X.ex, b ∉ X.fs
  funs : X.s₀.heap.FunFrames X.base X.outer
  frf : ∀ b ∈ X.fs, X.H₀ b = none
structure Inv (X : Cx) (pins : List (Addr × Obj)) (σ : List (Option V)) (H : Hp) (s : Shared) : Prop where
  ok : X.Ok
  os : s.os = X.s₀.os
  bare : AllBare s.gens
  base : Un X.fs X.ex X.H₀ H X.s₀.heap s.heap
  loc : ∃ m, s.heap.Ns X.env.locals m ∧ ∀ (i : Nat) (x : Str) (v : V), X.N[i]? = some x → σ[i]? = some (some v) → Vis X.env.scope x → ∃ u, RelV v u ∧ Look X.env s.heap m x u
  cell : ∀ x c, X.env.cells.lookup x = some c → ∃ v, s.heap.IsCell c v
  free : H X.env.locals = none
  freeC : ∀ x c, X.env.cells.lookup x = some c → H c = none
  pin : ∀ p ∈ X.pn ++ pins, s.heap.get? p.1 = some p.2 ∧ H p.1 = none ∧ p.1 ≠ X.env.locals ∧ p.1 ∉ X.fs ∧ ∀ v, p.2.data ≠ .cell v
  hok : HOk X.prog X.w H s.heap
  len : σ.length = X.N.length
section
variable {X : Cx} {pins : List (Addr × Obj)} {σ : List (Option V)} {H H' : Hp} {s : Shared} {h' : Heap}
theorem Cx.Ok.nofr (ok : X.Ok) {b : Addr} {o : Obj} (e : X.base.get? b = some o) : b ∉ X.fs := fun hb => by
  have := (ok.funs.mem hb).1
  rw [e] at this; cases this
theorem Inv.bs (I : Inv X pins σ H s) : ∀ b o, X.base.get? b = some o → s.heap.get? b = some o ∧ H b = none := fun b o e =>
  ⟨I.base.keep b o (I.ok.bs b o e).1 (I.ok.bs b o e).2 (I.ok.nofr e) (I.ok.noex b o e), I.base.free b o (I.ok.bs b o e).1 (I.ok.bs b o e).2 (I.ok.noex b o e)⟩
theorem Inv.bk (I : Inv X pins σ H s) : ∀ b o, X.base.get? b = some o → s.heap.get? b = some o := fun b o e => (I.bs b o e).1
theorem Inv.mod (I : Inv X pins σ H s) : Mod X.K X.mg X.base := I.ok.mod
theorem Inv.kIn (I : Inv X pins σ H s) : X.K.In s.heap := I.ok.mod.kin.keeps I.bk
theorem Inv.nolimit (I : Inv X pins σ H s) : s.heap.NoLimit := I.ok.mod.nolimit.keeps I.bk
theorem Inv.fr (I : Inv X pins σ H s) : ∃ m, Fr X.base X.env.locals s.heap m :=
  let ⟨m, hn, _⟩ := I.loc
  ⟨m, hn, I.bk, Nat.le_trans I.ok.bsz I.ok.above⟩
theorem Inv.lt (I : Inv X pins σ H s) : X.env.locals < s.heap.objs.size := let ⟨_, hn, _⟩ := I.loc; hn.lt
theorem Inv.sz (I : Inv X pins σ H s) : X.s₀.heap.objs.size ≤ s.heap.objs.size := Nat.le_trans I.ok.above (Nat.le_of_lt I.lt)
theorem Inv.nofs (I : Inv X pins σ H s) {a : Addr} (h : s.heap.objs.size ≤ a) : a ∉ X.fs := fun hb => by
  obtain ⟨_, o, ho, _⟩ := I.ok.funs.mem hb
  exact absurd (Nat.lt_of_lt_of_le (Heap.lt_size ho) (Nat.le_trans I.sz h)) (Nat.lt_irrefl _)
theorem Inv.cne (I : Inv X pins σ H s) : ∀ x c, X.env.cells.lookup x = some c → c ≠ X.env.locals := fun x c e z => by
  obtain ⟨v, o, ho, hd⟩ := I.cell x c e
  obtain ⟨m, ⟨o', es, ep, ho', hd', _⟩, _⟩ := I.loc
  rw [z, ho'] at ho; cases ho; rw [hd'] at hd; cases hd
theorem Inv.funs (I : Inv X pins σ H s) : s.heap.FunFrames X.base X.outer := by
  have all : ∀ (l : List Env), (∀ b ∈ frs l, b ∈ X.fs) → X.s₀.heap.FunFrames X.base l → s.heap.FunFrames X.base l := by
    intro l
    induction l with
    | nil => intro _ _; trivial
    | cons env r ih =>
      intro hs hl
      obtain ⟨hk, ⟨L, o, hf, hn, ho, hd⟩, hr⟩ := hl
      have hL : L ∈ X.fs := hs L (by unfold frs; rw [List.filterMap_cons, hf]; exact List.mem_cons_self)
      obtain ⟨sl, e⟩ := I.base.slot L o ho (I.ok.frf L hL) hL fun z => I.ok.exfs L z hL
      exact ⟨hk, ⟨L, _, hf, hn, e, hd⟩, ih (fun b hb => hs b (by unfold frs; rw [List.filterMap_cons, hf]; exact List.mem_cons_of_mem _ hb)) hr⟩
  exact all X.outer (fun _ hb => hb) I.ok.funs
theorem Inv.stack (I : Inv X pins σ H s) : s.heap.FunFrames X.base X.stack := by
  rcases I.ok.stk with e | ⟨e, hf⟩
  · rw [e]; exact I.funs
  · rw [e]
    obtain ⟨m, hn, _⟩ := I.loc
    refine .cons (by rw [I.ok.kind]; decide) hf hn ?_ I.funs
    exact Heap.get?_none_of_le (Nat.le_trans I.ok.bsz I.ok.above)
theorem Inv.stkSub (I : Inv X pins σ H s) : ∀ b ∈ frs X.stack, b ∈ X.env.locals :: X.fs := fun b hb => by
  rcases I.ok.stk with e | ⟨e, hf⟩
  · rw [e] at hb; exact List.mem_cons_of_mem _ hb
  · rw [e] at hb
    unfold frs at hb
    rw [List.filterMap_cons, hf] at hb
    exact hb
theorem Inv.stkFree (I : Inv X pins σ H s) : ∀ b ∈ frs X.stack, H b = none := fun b hb => by
  rcases List.mem_cons.mp (I.stkSub b hb) with e | hb
  · rw [e]; exact I.free
  · obtain ⟨_, o, ho, _⟩ := I.ok.funs.mem hb
    exact I.base.free b o ho (I.ok.frf b hb) fun z => I.ok.exfs b z hb
theorem Inv.step {g' : Array GenState} {t' : Nat} {d' : Drawn} {ch : List Addr} (I : Inv X pins σ H s)
    (hch : ∀ b ∈ ch, (b ∈ X.ex ∨ X.s₀.heap.objs.size ≤ b) ∧ b ≠ X.env.locals ∧ (∀ x c, X.env.cells.lookup x = some c → c ≠ b) ∧ ∀ p ∈ X.pn ++ pins, p.1 ≠ b)
    (keep : ∀ b o, b ≠ X.env.locals → b ∉ X.fs → b ∉ ch → s.heap.get? b = some o → H b = none → h'.get? b = some o)
    (slot : ∀ b o, b ≠ X.env.locals → b ∈ X.fs → b ∉ ch → s.heap.get? b = some o → H b = none → ∃ sl, h'.get? b = some { o with slots := sl }) (free : ∀ b o, b ∉ ch → s.heap.get? b = some o → H b = none → H' b = none)
    (there : ∀ b o, b ∉ ch → s.heap.get? b = some o → ∃ o', h'.get? b = some o')
    (tups : ∀ b xs, H b = some (.tup xs) → H' b = some (.tup xs)) (frzs : ∀ b o u, H b = some (.frz o u) → H' b = some (.frz o u)) (tbls : ∀ b ps, H b = some (.tbl ps) → ∃ more, H' b = some (.tbl (ps ++ more)))
    (ns : ∀ m, s.heap.Ns X.env.locals m → h'.Ns X.env.locals m) (hok : HOk X.prog X.w H' h') (hg : AllBare g') :
    Inv X pins σ H' { s with heap := h', gens := g', drawn := d', toks := t' } := by
  have neL : ∀ b o, X.s₀.heap.get? b = some o → b ≠ X.env.locals := fun b o e => Nat.ne_of_lt (Nat.lt_of_lt_of_le (Heap.lt_size e) I.ok.above)
  have neC : ∀ b o, X.s₀.heap.get? b = some o → b ∉ X.ex → b ∉ ch := fun b o e hx hb => by
    rcases (hch b hb).1 with z | z
    · exact hx z
    · exact absurd (Nat.lt_of_lt_of_le (Heap.lt_size e) z) (Nat.lt_irrefl _)
  have cellK : ∀ x c, X.env.cells.lookup x = some c → ∀ v, s.heap.IsCell c v → h'.IsCell c v := fun x c e v ⟨o, ho, hd⟩ => by
    have nch : c ∉ ch := fun z => (hch c z).2.2.1 x c e rfl
    by_cases hc : c ∈ X.fs
    · obtain ⟨sl, q⟩ := slot c o (I.cne x c e) hc nch ho (I.freeC x c e)
      exact ⟨_, q, hd⟩
    · exact ⟨o, keep c o (I.cne x c e) hc nch ho (I.freeC x c e), hd⟩
  refine ⟨I.ok, I.os, hg, ⟨fun b o e n hb hx => ?_, fun b o e n hb hx => ?_, fun b o e n hx => ?_, fun b o e hx => ?_, fun b xs e => tups b xs (I.base.tups b xs e), fun b o xs e => frzs b o xs (I.base.frzs b o xs e), fun b ps e => ?_⟩, ?_, fun x c e => ?_, ?_, fun x c e => ?_, fun p hp => ?_, hok, I.len⟩
  · exact keep b o (neL b o e) hb (neC b o e hx) (I.base.keep b o e n hb hx) (I.base.free b o e n hx)
  · obtain ⟨sl, e1⟩ := I.base.slot b o e n hb hx
    obtain ⟨sl', e2⟩ := slot b _ (neL b o e) hb (neC b o e hx) e1 (I.base.free b o e n hx)
    exact ⟨sl', e2⟩
  · obtain ⟨o', e1⟩ := I.base.there b o e hx
    exact free b o' (neC b o e hx) e1 (I.base.free b o e n hx)
  · obtain ⟨o', e1⟩ := I.base.there b o e hx
    exact there b o' (neC b o e hx) e1
  · obtain ⟨m1, e1⟩ := I.base.tbls b ps e
    obtain ⟨m2, e2⟩ := tbls b _ e1
    exact ⟨m1 ++ m2, by rw [e2, Array.append_assoc]⟩
  · obtain ⟨m, hn, hl⟩ := I.loc
    refine ⟨m, ns m hn, fun i x v e1 e2 e3 => ?_⟩
    obtain ⟨u, r, l⟩ := hl i x v e1 e2 e3
    refine ⟨u, r, ?_⟩
    rcases l with l | ⟨k, c, e, z⟩
    · exact .inl l
    · exact .inr ⟨k, c, e, cellK x c e _ z⟩
  · obtain ⟨v, z⟩ := I.cell x c e
    exact ⟨v, cellK x c e v z⟩
  · obtain ⟨m, ⟨o, _, _, ho, _⟩, _⟩ := I.loc
    exact free _ o (fun z => (hch _ z).2.1 rfl) ho I.free
  · obtain ⟨v, o, ho, hd⟩ := I.cell x c e
    exact free c o (fun z => (hch c z).2.2.1 x c e rfl) ho (I.freeC x c e)
  · obtain ⟨e, n, ne, nf, d⟩ := I.pin p hp
    have nch : p.1 ∉ ch := fun z => (hch p.1 z).2.2.2 p hp rfl
    exact ⟨keep p.1 p.2 ne nf nch e n, free p.1 p.2 nch e n, ne, nf, d⟩
theorem Inv.un {t' : Nat} (I : Inv X pins σ H s) (u : Un X.fs [] H H' s.heap h') (hok : HOk X.prog X.w H' h') : Inv X pins σ H' { s with heap := h', toks := t' } := by
  obtain ⟨m, ⟨o, es, ep, ho, r⟩, _⟩ := id I.loc
  obtain ⟨sl, hL⟩ := u.any ho I.free (by simp)
  exact I.step (g' := s.gens) (d' := s.drawn) (ch := []) (fun _ z => nomatch z) (fun b o _ hb _ e n => u.keep b o e n hb (by simp)) (fun b o _ hb _ e n => u.slot b o e n hb (by simp)) (fun b o _ e n => u.free b o e n (by simp)) (fun b o _ e => u.there b o e (by simp)) u.tups u.frzs u.tbls (fun m' hm => by
    obtain ⟨o', es', ep', ho', r'⟩ := hm
    rw [ho] at ho'; cases ho'
    exact ⟨_, es', ep', hL, r'⟩) hok I.bare
theorem Inv.call {g' : Array GenState} {t' : Nat} {d' : Drawn} {ch : List Addr} (I : Inv X pins σ H s) (u : Un (frs X.stack) ch H H' s.heap h') (hok : HOk X.prog X.w H' h') (hg : AllBare g')
    (hch : ∀ b ∈ ch, (b ∈ X.ex ∨ X.s₀.heap.objs.size ≤ b) ∧ b ≠ X.env.locals ∧ (∀ x c, X.env.cells.lookup x = some c → c ≠ b) ∧ ∀ p ∈ X.pn ++ pins, p.1 ≠ b) :
    Inv X pins σ H' { s with heap := h', gens := g', drawn := d', toks := t' } := by
  obtain ⟨m, ⟨o, es, ep, ho, r⟩, _⟩ := id I.loc
  obtain ⟨sl, hL⟩ := u.any ho I.free fun z => (hch _ z).2.1 rfl
  exact I.step (ch := ch) hch (fun b o hL hb hc e n => u.keep b o e n (fun z => (List.mem_cons.mp (I.stkSub b z)).elim hL hb) hc) (fun b o _ _ hc e n => u.any e n hc) (fun b o hc e n => u.free b o e n hc) (fun b o hc e => u.there b o e hc) u.tups u.frzs u.tbls (fun m' hm => by
    obtain ⟨o', es', ep', ho', r'⟩ := hm
    rw [ho] at ho'; cases ho'
    exact ⟨_, es', ep', hL, r'⟩) hok hg
theorem Inv.turned {t' : Nat} {it : Addr} (I : Inv X pins σ H s) (k : ∀ b o, b ≠ it → s.heap.get? b = some o → h'.get? b = some o) (hn : H it = none) (hL : it ≠ X.env.locals)
    (h1 : it ∈ X.ex ∨ X.s₀.heap.objs.size ≤ it) (h2 : ∀ x c, X.env.cells.lookup x = some c → c ≠ it) (h3 : ∀ p ∈ X.pn ++ pins, p.1 ≠ it) : Inv X pins σ H { s with heap := h', toks := t' } := by
  have nit : ∀ b u, H b = some u → b ≠ it := fun b u e z => by rw [z, hn] at e; cases e
  refine I.step (g' := s.gens) (d' := s.drawn) (ch := [it]) (fun b hb => ?_) (fun b o _ _ hc e _ => k b o (fun z => hc (by simp [z])) e) (fun b o _ _ hc e _ => ⟨o.slots, k b o (fun z => hc (by simp [z])) e⟩) (fun _ _ _ _ n => n)
    (fun b o hc e => ⟨o, k b o (fun z => hc (by simp [z])) e⟩) (fun _ _ e => e) (fun _ _ _ e => e) (fun b ps e => ⟨#[], by rw [e]; simp⟩) (fun m hm => ?_) (fun b u e => ?_) I.bare
  · have e : b = it := by simpa using hb
    subst e
    exact ⟨h1, hL, h2, h3⟩
  · obtain ⟨o, es, ep, ho, r⟩ := hm
    exact ⟨o, es, ep, k _ o (Ne.symm hL) ho, r⟩
  · refine (I.hok b u e).stay (fun c v hc q => k c v ?_ q) (fun _ q => q) fun _ _ q => q
    rcases hc with z | z
    · rw [z]; exact nit b u e
    · exact nit c _ z
theorem Inv.tok (I : Inv X pins σ H s) (t : Nat) : Inv X pins σ H { s with toks := t } := I.un (h' := s.heap) (t' := t) Un.refl I.hok
theorem Inv.kept {t' : Nat} (I : Inv X pins σ H s) (k : ∀ b u, s.heap.get? b = some u → h'.get? b = some u) : Inv X pins σ H { s with heap := h', toks := t' } := I.un (Un.kept k) (I.hok.kept k)
theorem Inv.laid {a : Addr} {o : HO} {t' : Nat} (I : Inv X pins σ H s) (k : ∀ b u, s.heap.get? b = some u → h'.get? b = some u) (hp : s.heap.objs.size ≤ a) (new : ObjOk X.prog X.w (upd H a o) h' a o) :
    Inv X pins σ (upd H a o) { s with heap := h', toks := t' } := I.un (Un.laid k hp (I.hok.fresh hp)) (I.hok.laid k hp new)
theorem Inv.write {x e : Addr} {o : HO} {t' : Nat} (I : Inv X pins σ H s) (mu : Mut (H x)) (he : e = x ∨ H e = some (.own x)) (k : ∀ b u, b ≠ e → s.heap.get? b = some u → h'.get? b = some u) (heo : ∃ u, h'.get? e = some u)
    (new : ObjOk X.prog X.w (upd H x o) h' x o) : Inv X pins σ (upd H x o) { s with heap := h', toks := t' } := I.un (Un.write mu he k heo) (I.hok.write mu he k heo new)
theorem Inv.pins_of {pins' : List (Addr × Obj)} (I : Inv X pins σ H s) (h : ∀ p ∈ pins', s.heap.get? p.1 = some p.2 ∧ H p.1 = none ∧ p.1 ≠ X.env.locals ∧ p.1 ∉ X.fs ∧ ∀ v, p.2.data ≠ .cell v) : Inv X pins' σ H s :=
  ⟨I.ok, I.os, I.bare, I.base, I.loc, I.cell, I.free, I.freeC, fun p hp => (List.mem_append.mp hp).elim (fun z => I.pin p (List.mem_append_left _ z)) (h p), I.hok, I.len⟩
theorem nodup_ix {N : List Str} (hN : N.Nodup) {i j : Nat} {x : Str} (a : N[i]? = some x) (b : N[j]? = some x) : i = j := by
  obtain ⟨h1, e1⟩ := List.getElem?_eq_some_iff.mp a
  obtain ⟨h2, e2⟩ := List.getElem?_eq_some_iff.mp b
  exact (List.getElem_inj hN).mp (e1.trans e2.symm)
theorem store_ok2 {M : Model} {A : Around} {E : Value → Shared → Prop} {i : Nat} {x : Str} {v : V} {u : Value} {Q : Unit → Shared → Prop} (I : Inv X pins σ H s) (hN : X.N.Nodup) (hi : X.N[i]? = some x) (hx : Loc X.env.scope x) (r : RelV v u)
    (h : ∀ s', Inv X pins (σ.set i (some v)) H s' → (∃ a, Heap.SameBut a s.heap s'.heap ∧ (a = X.env.locals ∨ X.env.cells.lookup x = some a)) → Q () s') (hf : X.fn x = true ∨ X.env.scope.names.lookup x = some .local := by first | exact .inl rfl | exact .inr rfl | assumption) : wpAny M A (storeName X.env x u) Q E s := by
  obtain ⟨m, hn, hl⟩ := id I.loc
  have hcls : (X.env.scope.kind == .class || (X.env.scope.kind == .module && X.env.locals != X.env.globals)) = false := by rw [I.ok.kind]; rfl
  have hiσ : i < σ.length := by rw [I.len]; exact (List.getElem?_eq_some_iff.mp hi).1
  have cne := I.cne
  have tracked : ∀ {a : Addr} {h' : Heap}, (∃ o, s.heap.get? a = some o ∧ H a = none) → Heap.SameBut a s.heap h' → HOk X.prog X.w H h' := fun {a h'} ha hs b ob e => by
    obtain ⟨_, _, hfree⟩ := ha
    refine (I.hok b ob e).stay (fun c w' hc q => (hs.2 c ?_).trans q) (fun _ q => q) fun _ _ q => q
    rintro rfl
    rcases hc with rfl | hc
    · rw [hfree] at e; cases e
    · rw [hfree] at hc; cases hc
  rcases hx with hk | hk
  · refine wpAny_storeName_local hk hn (fun h' hn' hs => ?_) hcls
    obtain ⟨oL, _, _, hoL, _⟩ := id hn
    refine h _ ⟨I.ok, I.os, I.bare, ⟨fun b o e n hb hx => ?_, fun b o e n hb hx => ?_, I.base.free, fun b o e hx => ?_, I.base.tups, I.base.frzs, I.base.tbls⟩, ⟨_, hn', fun j y v' e1 e2 e3 => ?_⟩, fun y c e => ?_, I.free, I.freeC, fun p hp => ?_, tracked ⟨oL, hoL, I.free⟩ hs, by simpa using I.len⟩ ⟨_, hs, .inl rfl⟩
    · exact (hs.2 b (Nat.ne_of_lt (Nat.lt_of_lt_of_le (Heap.lt_size e) I.ok.above))).trans (I.base.keep b o e n hb hx)
    · obtain ⟨sl, e1⟩ := I.base.slot b o e n hb hx
      exact ⟨sl, (hs.2 b (Nat.ne_of_lt (Nat.lt_of_lt_of_le (Heap.lt_size e) I.ok.above))).trans e1⟩
    · obtain ⟨o', e1⟩ := I.base.there b o e hx
      exact ⟨o', (hs.2 b (Nat.ne_of_lt (Nat.lt_of_lt_of_le (Heap.lt_size e) I.ok.above))).trans e1⟩
    · by_cases hj : j = i
      · subst hj
        rw [hi] at e1; cases e1
        rw [List.getElem?_set_self hiσ] at e2
        cases e2
        exact ⟨u, r, .inl ⟨hk, by simp⟩⟩
      · rw [List.getElem?_set_ne (Ne.symm hj)] at e2
        obtain ⟨u', r', q⟩ := hl j y v' e1 e2 e3
        refine ⟨u', r', ?_⟩
        rcases q with ⟨k, e⟩ | ⟨k, c, e, z⟩
        · refine .inl ⟨k, ?_⟩
          have : y ≠ x := fun e => hj (nodup_ix hN e1 (e ▸ hi))
          simp [this, e]
        · exact .inr ⟨k, c, e, z.sameBut hs (cne y c e)⟩
    · obtain ⟨w', z⟩ := I.cell y c e
      exact ⟨w', z.sameBut hs (cne y c e)⟩
    · obtain ⟨e, n, ne, nf, d⟩ := I.pin p hp
      exact ⟨(hs.2 p.1 ne).trans e, n, ne, nf, d⟩
  · have hfn : X.fn x = true := by
      rcases hf with z | z
      · exact z
      · rw [z] at hk; cases hk
    obtain ⟨c, hc⟩ := I.ok.has x (.inl hk)
    obtain ⟨w', z⟩ := I.cell x c hc
    refine wpAny_storeName_cell I.ok.kind hk hc z (fun h' hc' hs => ?_)
    obtain ⟨oc, hoc, hocd⟩ := id z
    refine h { s with heap := h' } ⟨I.ok, I.os, I.bare, ⟨fun b o e n hb hx => ?_, fun b o e n hb hx => ?_, I.base.free, fun b o e hx => ?_, I.base.tups, I.base.frzs, I.base.tbls⟩, ⟨m, hn.sameBut hs (Ne.symm (cne x c hc)), fun j y v' e1 e2 e3 => ?_⟩, fun y c' e => ?_, I.free, I.freeC, fun p hp => ?_, tracked ⟨oc, hoc, I.freeC x c hc⟩ hs, by simpa using I.len⟩ ⟨c, hs, .inr hc⟩
    · exact (hs.2 b (Nat.ne_of_lt (Nat.lt_of_lt_of_le (Heap.lt_size e) (I.ok.cab x c hfn hc)))).trans (I.base.keep b o e n hb hx)
    · obtain ⟨sl, e1⟩ := I.base.slot b o e n hb hx
      exact ⟨sl, (hs.2 b (Nat.ne_of_lt (Nat.lt_of_lt_of_le (Heap.lt_size e) (I.ok.cab x c hfn hc)))).trans e1⟩
    · obtain ⟨o', e1⟩ := I.base.there b o e hx
      exact ⟨o', (hs.2 b (Nat.ne_of_lt (Nat.lt_of_lt_of_le (Heap.lt_size e) (I.ok.cab x c hfn hc)))).trans e1⟩
    · by_cases hj : j = i
      · subst hj
        rw [hi] at e1; cases e1
        rw [List.getElem?_set_self hiσ] at e2
        cases e2
        exact ⟨u, r, .inr ⟨.inl hk, c, hc, hc'⟩⟩
      · rw [List.getElem?_set_ne (Ne.symm hj)] at e2
        obtain ⟨u', r', q⟩ := hl j y v' e1 e2 e3
        refine ⟨u', r', ?_⟩
        rcases q with q | ⟨k, c', e, z'⟩
        · exact .inl q
        · refine .inr ⟨k, c', e, z'.sameBut hs ?_⟩
          rintro rfl
          exact hj (nodup_ix hN e1 (I.ok.inj _ _ _ e hc ▸ hi))
    · by_cases hcc : c' = c
      · subst hcc; exact ⟨_, hc'⟩
      · obtain ⟨w2, z2⟩ := I.cell y c' e
        exact ⟨w2, z2.sameBut hs hcc⟩
    · obtain ⟨e, n, ne, nf, d⟩ := I.pin p hp
      refine ⟨(hs.2 p.1 ?_).trans e, n, ne, nf, d⟩
      intro q
      rw [q, hoc] at e
      have q' : oc = p.2 := Option.some.inj e
      exact d w' (by rw [← q']; exact hocd)
theorem store_ok {M : Model} {A : Around} {E : Value → Shared → Prop} {i : Nat} {x : Str} {v : V} {u : Value} {Q : Unit → Shared → Prop} (I : Inv X pins σ H s) (hN : X.N.Nodup) (hi : X.N[i]? = some x) (hx : Loc X.env.scope x) (r : RelV v u)
    (h : ∀ s', Inv X pins (σ.set i (some v)) H s' → Q () s') (hf : X.fn x = true ∨ X.env.scope.names.lookup x = some .local := by first | exact .inl rfl | exact .inr rfl | assumption) : wpAny M A (storeName X.env x u) Q E s :=
  store_ok2 I hN hi hx r (fun s' I' _ => h s' I') hf
theorem Inv.call' {s' : Shared} {ch : List Addr} (I : Inv X pins σ H s) (ho : s'.os = s.os) (u : Un (frs X.stack) ch H H' s.heap s'.heap) (hok : HOk X.prog X.w H' s'.heap) (hg : AllBare s'.gens)
    (hch : ∀ b ∈ ch, (b ∈ X.ex ∨ X.s₀.heap.objs.size ≤ b) ∧ b ≠ X.env.locals ∧ (∀ x c, X.env.cells.lookup x = some c → c ≠ b) ∧ ∀ p ∈ X.pn ++ pins, p.1 ≠ b) : Inv X pins σ H' s' := by
  obtain ⟨h', g', d', t', o'⟩ := s'
  have e : o' = s.os := ho
  subst e
  exact I.call (g' := g') (t' := t') (d' := d') u hok hg hch
end
abbrev XK := Value → Option Addr → Hp → Prop
abbrev St := List (Option V)
abbrev VK := V → Hp → Prop
abbrev TE := St → Hp → VK → Prop
abbrev TT := St → Hp → (Bool → Hp → Prop) → Prop
abbrev TA := St → Hp → (List V → Hp → Prop) → Prop
structure Ends where
  nx : St → Hp → Prop
  rt : VK
  bk : St → Hp → Prop := fun _ _ => False
  ct : St → Hp → Prop := fun _ _ => False
abbrev TS := Ends → St → Hp → Prop
def EP (X : Cx) (pins : List (Addr × Obj)) (σ : St) (Q : VK) (u : Value) (s' : Shared) : Prop := ∃ v H', Inv X pins σ H' s' ∧ RelV v u ∧ Q v H'
def TP (X : Cx) (pins : List (Addr × Obj)) (σ : St) (Q : Bool → Hp → Prop) (b : Bool) (s' : Shared) : Prop := ∃ H', Inv X pins σ H' s' ∧ Q b H'
def AP (X : Cx) (pins : List (Addr × Obj)) (σ : St) (Q : List V → Hp → Prop) (us : List Value) (s' : Shared) : Prop := ∃ vs H', Inv X pins σ H' s' ∧ Vals vs us ∧ Q vs H'
def SP (X : Cx) (pins : List (Addr × Obj)) (D : Ends) (f : Flow) (s' : Shared) : Prop :=
  match f with
  | .next => ∃ σ' H', Inv X pins σ' H' s' ∧ D.nx σ' H'
  | .brk => ∃ σ' H', Inv X pins σ' H' s' ∧ D.bk σ' H'
  | .cont => ∃ σ' H', Inv X pins σ' H' s' ∧ D.ct σ' H'
  | .ret u => ∃ v σ' H', Inv X pins σ' H' s' ∧ RelV v u ∧ D.rt v H'
def PE (X : Cx) (e : Expr) (t : TE) : Prop :=
  ∀ (pins : List (Addr × Obj)) (s : Shared) (σ : St) (H : Hp) (Q : VK), Inv X pins σ H s → t σ H Q → wpAny (model X.prog X.w) X.A (eval e X.env) (EP X pins σ Q) X.xe s
def PT (X : Cx) (e : Expr) (t : TT) : Prop :=
  ∀ (pins : List (Addr × Obj)) (s : Shared) (σ : St) (H : Hp) (Q : Bool → Hp → Prop), Inv X pins σ H s → t σ H Q → wpAny (model X.prog X.w) X.A (isTrue e X.env (eval e X.env)) (TP X pins σ Q) X.xe s
def PW (X : Cx) (e : Expr) (t : TT) : Prop :=
  ∀ (whole : Sem Value) (pins : List (Addr × Obj)) (s : Shared) (σ : St) (H : Hp) (Q : Bool → Hp → Prop), Inv X pins σ H s → t σ H Q → wpAny (model X.prog X.w) X.A (isTrue e X.env whole) (TP X pins σ Q) X.xe s
theorem PW.pt {X : Cx} {e : Expr} {t : TT} (h : PW X e t) : PT X e t := h _
def PA (X : Cx) (es : List Expr) (t : TA) : Prop :=
  ∀ (pos : Pos) (pins : List (Addr × Obj)) (s : Shared) (σ : St) (H : Hp) (Q : List V → Hp → Prop), Inv X pins σ H s → t σ H Q → wpAny (model X.prog X.w) X.A (spliced (backTo pos (starEach es X.env))) (AP X pins σ Q) X.xe s
def PS (X : Cx) (st : Stmt) (t : TS) : Prop :=
  ∀ (pins : List (Addr × Obj)) (s : Shared) (σ : St) (H : Hp) (D : Ends), Inv X pins σ H s → t D σ H → wpAny (model X.prog X.w) X.A (exec st X.env) (SP X pins D) X.xe s
def PSs (X : Cx) (st : List Stmt) (t : TS) : Prop :=
  ∀ (pins : List (Addr × Obj)) (s : Shared) (σ : St) (H : Hp) (D : Ends), Inv X pins σ H s → t D σ H → wpAny (model X.prog X.w) X.A (execs st X.env) (SP X pins D) X.xe s
theorem thn {α : Type} {t : Sem α} {Q Q' : α → Shared → Prop} {M : Model} {A : Around} {E : Value → Shared → Prop} {s : Shared} (h : wpAny M A t Q E s) (hQ : ∀ a s, Q a s → Q' a s) : wpAny M A t Q' E s := wpAny_mono h hQ fun _ _ x => x
end L2
namespace L2
open PySem PySem.Spec PyProof.Rows
section
variable {X : Cx}
def tVar (i : Nat) : TE := fun σ H Q => ∃ v, σ[i]? = some (some v) ∧ Q v H
def tC (v : V) : TE := fun _ H Q => Q v H
theorem pe_var {i : Nat} {x : Str} {pos : Pos} (hN : X.N[i]? = some x) (hv : Vis X.env.scope x) (hd : (x == ("__debug__" : Str)) = false := by decide) (hcd : (x == ("__classdict__" : Str)) = false := by decide) : PE X (.Name x pos) (tVar i) := by
  intro pins s σ H Q I h
  obtain ⟨v, e, h⟩ := h
  obtain ⟨m, hn, hl⟩ := I.loc
  obtain ⟨u, r, l⟩ := hl i x v hN e hv
  have fin : EP X pins σ Q u s := ⟨v, H, I, r, h⟩
  rcases l with ⟨hk, hm⟩ | ⟨hk, c, hc, hcell⟩
  · exact wpAny_Name (wpAny_loadName_local I.ok.kind hk hn hm fin) hd
  · rcases hk with hk | hk
    · exact wpAny_Name (wpAny_loadName_cell I.ok.kind hk hc hcell fin) hd
    · exact wpAny_Name (wpAny_loadName_free I.ok.kind hk hc hcell fin hcd) hd
theorem pe_int {i j pos} : PE X (.Constant (.int i) j pos) (tC (.int i)) := fun _ _ _ H _ I h => wpAny_Constant_int ⟨.int i, H, I.tok _, ⟨_, rfl⟩, h⟩
theorem pe_bl {b j pos} : PE X (.Constant (.bool b) j pos) (tC (.bl b)) := fun _ _ _ H _ I h => Constant_bool ⟨.bl b, H, I, rfl, h⟩
theorem pe_str {x j pos} : PE X (.Constant (.str x) j pos) (tC (.str x)) := fun _ _ _ H _ I h => Calls.Constant_str ⟨.str x, H, I.tok _, ⟨_, rfl⟩, h⟩
def Gl (X : Cx) (x : Str) : Prop := X.env.kindOf x = some .globalImplicit
theorem ld_glob {E : Value → Shared → Prop} {pins : List (Addr × Obj)} {s : Shared} {σ : St} {H : Hp} {x : Str} {u : Value} {pos : Pos} {Q : Value → Shared → Prop} (I : Inv X pins σ H s) (hg : Gl X x) (hm : X.mg x = some u) (h : Q u s)
    (hd : (x == ("__debug__" : Str)) = false := by decide) : wpAny (model X.prog X.w) X.A (eval (.Name x pos) X.env) Q E s :=
  Calls.Name_function_global I.ok.kind hg (Calls.loadGlobal_global (by rw [I.ok.glob]; exact I.mod.glob.keeps I.bk) hm h) hd
theorem ld_blt {E : Value → Shared → Prop} {pins : List (Addr × Obj)} {s : Shared} {σ : St} {H : Hp} {x : Str} {u : Value} {pos : Pos} {Q : Value → Shared → Prop} (I : Inv X pins σ H s) (hg : Gl X x) (hm : X.mg x = none) (hv : bootBuiltins x = some u) (h : Q u s)
    (hn : x ≠ "__name__" := by decide) (hd : (x == ("__debug__" : Str)) = false := by decide) : wpAny (model X.prog X.w) X.A (eval (.Name x pos) X.env) Q E s := by
  obtain ⟨mb, h1, h2⟩ := I.mod.blt
  exact Calls.Name_function_global I.ok.kind hg (Calls.loadGlobal_builtin (by rw [I.ok.glob]; exact I.mod.glob.keeps I.bk) hm (by rw [I.ok.blt]; exact h1.keeps I.bk) ((h2 x hn).trans hv) h) hd
theorem pe_glob {x : Str} {v : V} {u : Value} {pos : Pos} (hg : Gl X x) (hm : X.mg x = some u) (r : RelV v u) (hd : (x == ("__debug__" : Str)) = false := by decide) : PE X (.Name x pos) (tC v) :=
  fun _ _ _ H _ I h => ld_glob I hg hm ⟨v, H, I, r, h⟩ hd
theorem pe_bltn {x : Str} {v : V} {u : Value} {pos : Pos} (hg : Gl X x) (hm : X.mg x = none) (hv : bootBuiltins x = some u) (r : RelV v u) (hn : x ≠ "__name__" := by decide) (hd : (x == ("__debug__" : Str)) = false := by decide) : PE X (.Name x pos) (tC v) :=
  fun _ _ _ H _ I h => ld_blt I hg hm hv ⟨v, H, I, r, h⟩ hn hd
variable {a b : Expr} {ta tb : TE} {pos : Pos}
def tB (t : TE) : TT := fun σ H Q => t σ H fun x H1 => ∃ c, x = .bl c ∧ Q c H1
theorem pt_val {e : Expr} {t : TE} (h : PE X e t) (he : ∀ whole, isTrue e X.env whole = (do let v ← whole; standAt e.pos; holding [v] (truthy v)) := by intro _; rfl) : PT X e (tB t) := by
  intro pins s σ H Q I hw
  refine isTrue_plain (thn (h pins s σ H _ I hw) fun v s1 ⟨x, H1, I1, r1, q1⟩ => ?_) (he _)
  obtain ⟨d, rfl, q⟩ := q1
  cases r1
  exact wpAny_truthy_bool ⟨H1, I1, q⟩
variable {tA tB' : TT} {rest : List Expr}
def tAnd (t u : TT) : TT := fun σ H Q => t σ H fun c H1 => if c = true then u σ H1 Q else Q false H1
def tOr (t u : TT) : TT := fun σ H Q => t σ H fun c H1 => if c = true then Q true H1 else u σ H1 Q
def tNot (t : TT) : TT := fun σ H Q => t σ H fun c H1 => Q (!c) H1
theorem pw_and1 (ha : PT X a tA) : PW X (.BoolOp .And [a] pos) tA := by
  intro wh pins s σ H Q I h
  refine isTrue_and (thn (ha pins s σ H Q I h) fun c s1 e => ?_)
  cases c with
  | true => exact isTrue_and_nil e
  | false => exact e
theorem pw_or1 (ha : PT X a tA) : PW X (.BoolOp .Or [a] pos) tA := by
  intro wh pins s σ H Q I h
  refine isTrue_or (thn (ha pins s σ H Q I h) fun c s1 e => ?_)
  cases c with
  | false => exact isTrue_or_nil e
  | true => exact e
theorem pw_and (ha : PT X a tA) (hb : PW X (.BoolOp .And (b :: rest) pos) tB') : PW X (.BoolOp .And (a :: b :: rest) pos) (tAnd tA tB') := by
  intro wh pins s σ H Q I h
  refine isTrue_and (thn (ha pins s σ H _ I h) fun c s1 ⟨H1, I1, q1⟩ => ?_)
  cases c with
  | true => exact hb wh pins s1 σ H1 Q I1 q1
  | false => exact ⟨H1, I1, q1⟩
theorem pw_or (ha : PT X a tA) (hb : PW X (.BoolOp .Or (b :: rest) pos) tB') : PW X (.BoolOp .Or (a :: b :: rest) pos) (tOr tA tB') := by
  intro wh pins s σ H Q I h
  refine isTrue_or (thn (ha pins s σ H _ I h) fun c s1 ⟨H1, I1, q1⟩ => ?_)
  cases c with
  | true => exact ⟨H1, I1, q1⟩
  | false => exact hb wh pins s1 σ H1 Q I1 q1
theorem pt_not (ha : PT X a tA) : PT X (.UnaryOp .Not a pos) (tNot tA) := by
  intro pins s σ H Q I h
  exact isTrue_not (ha pins s σ H (fun c H1 => Q (!c) H1) I h)
def tAndV (ta tb : TE) : TE := fun σ H Q => ta σ H fun x H1 => ∃ c, x = .bl c ∧ if c = true then tb σ H1 Q else Q (.bl false) H1
def tOrV (ta tb : TE) : TE := fun σ H Q => ta σ H fun x H1 => ∃ c, x = .bl c ∧ if c = true then Q (.bl true) H1 else tb σ H1 Q
def tNotV (ta : TE) : TE := fun σ H Q => ta σ H fun x H1 => ∃ c, x = .bl c ∧ Q (.bl (!c)) H1
theorem pe_one {op} {t : TE} (h : PE X a t) : PE X (.BoolOp op [a] pos) t := fun pins s σ H Q I hw => BoolOp_one (h pins s σ H Q I hw)
theorem pe_and (ha : PE X a ta) (hb : PE X (.BoolOp .And (b :: rest) pos) tb) : PE X (.BoolOp .And (a :: b :: rest) pos) (tAndV ta tb) := by
  intro pins s σ H Q I h
  refine BoolOp_and (thn (ha pins s σ H _ I h) fun v s1 ⟨x, H1, I1, r1, q1⟩ => ?_)
  obtain ⟨c, rfl, q1⟩ := q1
  cases r1
  refine wpAny_truthy_bool ?_
  cases c with
  | true => exact hb pins s1 σ H1 Q I1 q1
  | false => exact ⟨.bl false, H1, I1, rfl, q1⟩
theorem pe_not (ha : PE X a ta) : PE X (.UnaryOp .Not a pos) (tNotV ta) := by
  intro pins s σ H Q I h
  refine UnaryOp_ (thn (ha pins s σ H _ I h) fun v s1 ⟨x, H1, I1, r1, q1⟩ => ?_)
  obtain ⟨c, rfl, q1⟩ := q1
  cases r1
  exact not_of (wpAny_truthy_bool ⟨.bl (!c), H1, I1, rfl, q1⟩)
def tIf (t : TT) (ta tb : TE) : TE := fun σ H Q => t σ H fun c H1 => if c = true then ta σ H1 Q else tb σ H1 Q
theorem pe_ifExp {c : Expr} (hc : PT X c tA) (ha : PE X a ta) (hb : PE X b tb) : PE X (.IfExp c a b pos) (tIf tA ta tb) := by
  intro pins s σ H Q I h
  refine wpAny_IfExp (thn (hc pins s σ H _ I h) fun d s1 ⟨H1, I1, q1⟩ => ?_)
  cases d with
  | true => exact ha pins s1 σ H1 Q I1 q1
  | false => exact hb pins s1 σ H1 Q I1 q1
end
end L2
namespace L2
open PySem PySem.Spec PyProof.Rows
def SqL (K : PySem.W.Frag) (H : Hp) (a : Addr) (xs : List V) : Prop :=
  Rd H a (.lst xs) ∨
    ∃ (o : Obj) (its : Array Value) (n : Nat), K.lookup a = some o ∧ o.cls = .type "list" ∧ o.dict = none ∧ o.data = .seq its n ∧ its.size ≤ sizeLine ∧ Vals xs its.toList
def SqT (K : PySem.W.Frag) (H : Hp) (a : Addr) (xs : List V) : Prop :=
  Rd H a (.tup xs) ∨
    ∃ (o : Obj) (its : Array Value) (n : Nat), K.lookup a = some o ∧ o.cls = .type "tuple" ∧ o.data = .seq its n ∧ its.size ≤ sizeLine ∧ Vals xs its.toList
def absV : Value → Option V
  | .none => some .non
  | .bool b => some (.bl b)
  | .int i _ => some (.int i)
  | .str x _ => some (.str x)
  | .bytes b _ => some (.byt b)
  | .float b _ => some (.flt b)
  | .ref a => some (.ref a)
  | .type n => some (.ty n)
  | _ => none
theorem RelV.abs {x : V} {u : Value} (r : RelV x u) : absV u = some x := by
  cases x with
  | non => cases r; rfl
  | bl _ => cases r; rfl
  | int _ => obtain ⟨t, rfl⟩ := r; rfl
  | str _ => obtain ⟨t, rfl⟩ := r; rfl
  | byt _ => obtain ⟨t, rfl⟩ := r; rfl
  | flt _ => obtain ⟨t, rfl⟩ := r; rfl
  | ref _ => cases r; rfl
  | ty _ => cases r; rfl
theorem RelV.inj {x y : V} {u : Value} (r : RelV x u) (q : RelV y u) : x = y := Option.some.inj (r.abs.symm.trans q.abs)
theorem Vals.inj : ∀ {xs ys : List V} {us : List Value}, Vals xs us → Vals ys us → xs = ys
  | _, _, _, .nil, .nil => rfl
  | _, _, _, .cons r t, .cons r' t' => by rw [r.inj r', Vals.inj t t']
section
variable {X : Cx} {pins : List (Addr × Obj)} {σ : St} {H : Hp} {s : Shared} {a : Addr} {xs ys : List V}
theorem SqL.of {K : PySem.W.Frag} (h : H a = some (.lst xs)) : SqL K H a xs := .inl (.inl h)
theorem SqT.of {K : PySem.W.Frag} (h : H a = some (.tup xs)) : SqT K H a xs := .inl (.inl h)
theorem Inv.list (I : Inv X pins σ H s) (h : SqL X.K H a xs) : ∃ its : List Value, Vals xs its ∧ PlainL s.heap a its.toArray ∧ xs.length ≤ sizeLine := by
  rcases h with h | ⟨o, its, n, hk, hc, hd, hs, hz, r⟩
  · obtain ⟨z, its, n, r, e⟩ := h.ok I.hok
    exact ⟨its, r, ⟨_, n, e, rfl, rfl, rfl⟩, z⟩
  · refine ⟨its.toList, r, ⟨o, n, I.kIn a o hk, hc, hd, by simpa using hs⟩, ?_⟩
    have e := r.length
    simp only [Array.length_toList] at e
    omega
theorem Inv.tuple (I : Inv X pins σ H s) (h : SqT X.K H a xs) : ∃ its : List Value, Vals xs its ∧ IsTup s.heap a its.toArray ∧ xs.length ≤ sizeLine := by
  rcases h with h | ⟨o, its, n, hk, hc, hs, hz, r⟩
  · obtain ⟨z, its, r, p⟩ := h.ok I.hok
    exact ⟨its, r, p, z⟩
  · refine ⟨its.toList, r, ⟨o, I.kIn a o hk, hc, n, by simpa using hs⟩, ?_⟩
    have e := r.length
    simp only [Array.length_toList] at e
    omega
theorem Inv.list_inj (I : Inv X pins σ H s) (h : SqL X.K H a xs) (h' : SqL X.K H a ys) : xs = ys := by
  obtain ⟨its, r, ⟨o, n, e, _, _, d⟩, _⟩ := I.list h
  obtain ⟨its', r', ⟨o', n', e', _, _, d'⟩, _⟩ := I.list h'
  rw [e] at e'; cases e'
  rw [d] at d'
  injection d' with d1 _
  have : its = its' := by simpa using congrArg Array.toList d1
  subst this
  exact r.inj r'
theorem Inv.tuple_inj (I : Inv X pins σ H s) (h : SqT X.K H a xs) (h' : SqT X.K H a ys) : xs = ys := by
  obtain ⟨its, r, ⟨o, e, _, n, d⟩, _⟩ := I.tuple h
  obtain ⟨its', r', ⟨o', e', _, n', d'⟩, _⟩ := I.tuple h'
  rw [e] at e'; cases e'
  rw [d] at d'
  injection d' with d1 _
  have : its = its' := by simpa using congrArg Array.toList d1
  subst this
  exact r.inj r'
end
abbrev Cx.wish (X : Cx) (E : Value → Shared → Prop) : Cx := { X with xe := E }
abbrev Cx.nox (X : Cx) : Cx := X.wish fun _ _ => False
theorem Cx.Ok.wish {X : Cx} (ok : X.Ok) (E : Value → Shared → Prop) : (X.wish E).Ok :=
  ⟨ok.mod, ok.kind, ok.glob, ok.blt, ok.above, ok.inj, ok.has, ok.cab, ok.hd, ok.frames, ok.stk, ok.exf, ok.bs, ok.bsz, ok.noex, ok.exfs, ok.funs, ok.frf⟩
theorem Cx.Ok.unwish {X : Cx} {E : Value → Shared → Prop} (ok : (X.wish E).Ok) : X.Ok :=
  ⟨ok.mod, ok.kind, ok.glob, ok.blt, ok.above, ok.inj, ok.has, ok.cab, ok.hd, ok.frames, ok.stk, ok.exf, ok.bs, ok.bsz, ok.noex, ok.exfs, ok.funs, ok.frf⟩
section
variable {X : Cx} {pins : List (Addr × Obj)} {σ : St} {H : Hp} {s : Shared} {E : Value → Shared → Prop}
theorem Inv.wish (I : Inv X pins σ H s) (E : Value → Shared → Prop) : Inv (X.wish E) pins σ H s := ⟨I.ok.wish E, I.os, I.bare, I.base, I.loc, I.cell, I.free, I.freeC, I.pin, I.hok, I.len⟩
theorem Inv.unwish (I : Inv (X.wish E) pins σ H s) : Inv X pins σ H s := ⟨I.ok.unwish, I.os, I.bare, I.base, I.loc, I.cell, I.free, I.freeC, I.pin, I.hok, I.len⟩
theorem SP.unwish {D : Ends} {f : Flow} {s' : Shared} (h : SP (X.wish E) pins D f s') : SP X pins D f s' := by
  cases f with
  | next => obtain ⟨σ', H', I, q⟩ := h; exact ⟨σ', H', I.unwish, q⟩
  | brk => obtain ⟨σ', H', I, q⟩ := h; exact ⟨σ', H', I.unwish, q⟩
  | cont => obtain ⟨σ', H', I, q⟩ := h; exact ⟨σ', H', I.unwish, q⟩
  | ret u => obtain ⟨v, σ', H', I, r, q⟩ := h; exact ⟨v, σ', H', I.unwish, r, q⟩
theorem PE.nox {e : Expr} {t : TE} (h : PE X.nox e t) : PE X e t := fun pins s σ H Q I hw =>
  wpAny_mono (h pins s σ H Q (I.wish _) hw) (fun _ _ ⟨v, H', I', r, q⟩ => ⟨v, H', I'.unwish, r, q⟩) fun _ _ z => False.elim z
theorem PT.nox {e : Expr} {t : TT} (h : PT X.nox e t) : PT X e t := fun pins s σ H Q I hw =>
  wpAny_mono (h pins s σ H Q (I.wish _) hw) (fun _ _ ⟨H', I', q⟩ => ⟨H', I'.unwish, q⟩) fun _ _ z => False.elim z
theorem PSs.nox {st : List Stmt} {t : TS} (h : PSs X.nox st t) : PSs X st t := fun pins s σ H D I hw =>
  wpAny_mono (h pins s σ H D (I.wish _) hw) (fun _ _ q => q.unwish) fun _ _ z => False.elim z
end
section
variable {X : Cx} {st : Stmt} {rest : List Stmt} {t u : TS} {e : Expr} {te : TE} {pos : Pos}
def tNext : TS := fun D σ H => D.nx σ H
def tSeq (t u : TS) : TS := fun D σ H => t { D with nx := u D } σ H
theorem pss_nil : PSs X [] tNext := fun _ _ σ H _ I h => wpAny_execs_nil ⟨σ, H, I, h⟩
theorem pss_cons (h1 : PS X st t) (h2 : PSs X rest u) : PSs X (st :: rest) (tSeq t u) := by
  intro pins s σ H D I h
  refine wpAny_execs_cons (thn (h1 pins s σ H { D with nx := u D } I h) fun f s1 q => ?_)
  cases f with
  | next =>
    obtain ⟨σ', H', I', q⟩ := q
    exact h2 pins s1 σ' H' D I' q
  | ret v => exact q
  | brk => exact q
  | cont => exact q
theorem pss_one (h1 : PS X st t) : PSs X [st] t := by
  intro pins s σ H D I h
  refine wpAny_execs_cons (thn (h1 pins s σ H D I h) fun f s1 q => ?_)
  cases f with
  | next => exact wpAny_execs_nil q
  | ret v => exact q
  | brk => exact q
  | cont => exact q
theorem Inv.quiet {pins : List (Addr × Obj)} {σ : St} {H : Hp} {s : Shared} (I : Inv X pins σ H s) : interactive X.env = false := by simp [interactive, I.ok.kind]
def tDrop (te : TE) : TS := fun D σ H => te σ H fun _ H1 => D.nx σ H1
theorem ps_expr (he : PE X e te) (hs : swapsWith e none pos.line X.env = pure false := by rfl) : PS X (.Expr e pos) (tDrop te) := by
  intro pins s σ H D I h
  exact wpAny_Expr_any (thn (he pins s σ H _ I h) fun v s1 ⟨x, H1, I1, r1, q1⟩ => ⟨σ, H1, I1, q1⟩) I.quiet hs
def tRet (te : TE) : TS := fun D σ H => te σ H D.rt
theorem ps_ret (he : PE X e te) : PS X (.Return (some e) pos) (tRet te) := by
  intro pins s σ H D I h
  exact wpAny_Return_some (thn (he pins s σ H _ I h) fun v s1 ⟨x, H1, I1, r1, q1⟩ => ⟨x, σ, H1, I1, r1, q1⟩)
def tRetN : TS := fun D _ H => D.rt .non H
def tIfS (c : TT) (t u : TS) : TS := fun D σ H => c σ H fun b H1 => if b = true then t D σ H1 else u D σ H1
theorem ps_if {c : Expr} {a b : List Stmt} {tc : TT} (hc : PT X c tc) (ha : PSs X a t) (hb : PSs X b u) : PS X (.If c a b pos) (tIfS tc t u) := by
  intro pins s σ H D I h
  refine wpAny_If (thn (hc pins s σ H _ I h) fun d s1 ⟨H1, I1, q1⟩ => ?_)
  cases d with
  | true => exact ha pins s1 σ H1 D I1 q1
  | false => exact hb pins s1 σ H1 D I1 q1
end
abbrev TG := V → St → Hp → (St → Hp → Prop) → Prop
abbrev TGs := List V → St → Hp → (St → Hp → Prop) → Prop
def PG (X : Cx) (target : Expr) (t : TG) : Prop :=
  ∀ (pins : List (Addr × Obj)) (s : Shared) (σ : St) (H : Hp) (v : V) (u : Value) (Q : St → Hp → Prop), Inv X pins σ H s → RelV v u → t v σ H Q →
    wpAny (model X.prog X.w) X.A (assign target X.env u) (fun _ s' => ∃ σ' H', Inv X pins σ' H' s' ∧ Q σ' H') X.xe s
def PGs (X : Cx) (ts : List Expr) (t : TGs) : Prop :=
  ∀ (pins : List (Addr × Obj)) (s : Shared) (σ : St) (H : Hp) (vs : List V) (us : List Value) (Q : St → Hp → Prop), Inv X pins σ H s → Vals vs us → t vs σ H Q →
    wpAny (model X.prog X.w) X.A (assignInOrder ((assignEach ts X.env).map (·.2)) us) (fun _ s' => ∃ σ' H', Inv X pins σ' H' s' ∧ Q σ' H') X.xe s
abbrev TSet := V → V → V → Hp → (Hp → Prop) → Prop
def PSet (X : Cx) (t : TSet) : Prop :=
  ∀ (pins : List (Addr × Obj)) (s : Shared) (σ : St) (H : Hp) (o i v : V) (ov iv u : Value) (Q : Hp → Prop), Inv X pins σ H s → RelV o ov → RelV i iv → RelV v u → t o i v H Q →
    wpAny (model X.prog X.w) X.A (setItem ov iv u) (fun _ s' => ∃ H', Inv X pins σ H' s' ∧ Q H') X.xe s
section
variable {X : Cx} {pos : Pos}
def gName (i : Nat) : TG := fun v σ H Q => Q (σ.set i (some v)) H
theorem pg_name {i : Nat} {x : Str} (hN : X.N.Nodup) (hi : X.N[i]? = some x) (hx : Loc X.env.scope x) (hf : X.fn x = true ∨ X.env.scope.names.lookup x = some .local := by first | exact .inl rfl | exact .inr rfl | assumption) : PG X (.Name x pos) (gName i) := by
  intro pins s σ H v u Q I r h
  exact wpAny_assign_Name (store_ok I hN hi hx r (fun s' I' => ⟨_, H, I', h⟩) hf)
def gNil : TGs := fun vs σ H Q => vs = [] ∧ Q σ H
def gCons (t : TG) (u : TGs) : TGs := fun vs σ H Q => ∃ v r, vs = v :: r ∧ t v σ H fun σ' H' => u r σ' H' Q
theorem pgs_nil : PGs X [] gNil := by
  intro pins s σ H vs us Q I r h
  obtain ⟨e, h⟩ := h
  subst e
  cases r
  exact assignInOrder_nil ⟨σ, H, I, h⟩
theorem pgs_cons {e : Expr} {es : List Expr} {t : TG} {u : TGs} (h1 : PG X e t) (h2 : PGs X es u)
    (hs : (assignEach (e :: es) X.env).map (·.2) = assign e X.env :: (assignEach es X.env).map (·.2) := by rfl) : PGs X (e :: es) (gCons t u) := by
  intro pins s σ H vs us Q I r h
  obtain ⟨v, vr, e1, h⟩ := h
  subst e1
  cases r with
  | cons r rr =>
    rw [hs]
    refine assignInOrder_cons (thn (h1 pins s σ H _ _ _ I r h) fun _ s1 ⟨σ1, H1, I1, q1⟩ => ?_)
    exact h2 pins s1 σ1 H1 _ _ Q I1 rr q1
def gTup (K : PySem.W.Frag) (n : Nat) (t : TGs) : TG := fun v σ H Q => ∃ a xs, v = .ref a ∧ SqT K H a xs ∧ xs.length = n ∧ t xs σ H Q
theorem pg_tup {es : List Expr} {k : Nat} {t : TGs} {n : Nat} (hc : X.calm = true) (h : PGs X es t)
    (hn : (assignEach es X.env).length = n := by rfl) (hst : (assignEach es X.env).findIdx? (·.1) = none := by rfl) : PG X (.Tuple es k pos) (gTup X.K n t) := by
  intro pins s σ H v u Q I r hw
  obtain ⟨a, xs, e1, hq, hl, hw⟩ := hw
  subst e1
  cases r
  obtain ⟨its, rv, ht, hz⟩ := I.tuple hq
  refine assign_Tuple_tuple (I.ok.hd hc) ht (by simp [hn, ← hl, rv.length]) hst fun h' hx => ?_
  have I1 : Inv X pins σ H { s with heap := h' } := I.kept (t' := s.toks) fun b o e => hx b o (Nat.ne_of_lt (Heap.lt_size e)) e
  exact h pins _ σ H xs _ Q I1 (by simpa using rv) hw
def gSub (to ti : TE) (t : TSet) : TG := fun v σ H Q => to σ H fun o H1 => ti σ H1 fun i H2 => t o i v H2 fun H3 => Q σ H3
theorem pg_sub {o i : Expr} {to ti : TE} {t : TSet} (ho : PE X o to) (hi : PE X i ti) (hs : PSet X t)
    (ha : ∀ v, assign (.Subscript o i pos) X.env v = (do
      let ov ← holding [v] (eval o X.env)
      let iv ← holding [v, ov] (eval i X.env)
      standAt pos
      holding [v, ov, iv] (setItem ov iv v)
      release [v, ov, iv] []) := by intro _; rfl) : PG X (.Subscript o i pos) (gSub to ti t) := by
  intro pins s σ H v u Q I r h
  rw [ha]
  refine wpAny_bind (wpAny_holding (thn (ho pins s σ H _ I h) fun ov s1 ⟨x, H1, I1, r1, q1⟩ => ?_))
  refine wpAny_bind (wpAny_holding (thn (hi pins s1 σ H1 _ I1 q1) fun iv s2 ⟨y, H2, I2, r2, q2⟩ => ?_))
  refine wpAny_bind (wpAny_standAt (wpAny_bind (wpAny_holding (thn (hs pins s2 σ H2 x y v ov iv u _ I2 r1 r2 r q2) fun _ s3 ⟨H3, I3, q3⟩ => ?_))))
  exact wpAny_release ⟨σ, H3, I3, q3⟩
def tAsg (te : TE) (g : TG) : TS := fun D σ H => te σ H fun x H1 => g x σ H1 D.nx
theorem ps_asg {tg e : Expr} {te : TE} {g : TG} (he : PE X e te) (hg : PG X tg g) (hs : swapsWithSole [tg] e pos.line X.env = pure false := by rfl) (hw : swappedStores [tg] e X.env = pure none := by rfl)
    (h1 : (assignEach [tg] X.env).map (·.2) = [assign tg X.env] := by rfl) : PS X (.Assign [tg] e pos) (tAsg te g) := by
  intro pins s σ H D I h
  refine wpAny_Assign_stores (thn (he pins s σ H _ I h) fun v s1 ⟨x, H1, I1, r1, q1⟩ => ?_) hs hw
  rw [h1]
  exact thn (hg pins s1 σ H1 x v _ I1 r1 q1) fun _ s2 q => q
theorem ps_set {i : Nat} {x : Str} {e : Expr} {te : TE} {pos' : Pos} (hN : X.N.Nodup) (hi : X.N[i]? = some x) (hx : Loc X.env.scope x) (he : PE X e te) (hs : swapsWith e (some (.Name x pos')) pos.line X.env = pure false := by rfl) (hf : X.fn x = true ∨ X.env.scope.names.lookup x = some .local := by first | exact .inl rfl | exact .inr rfl | assumption) :
    PS X (.Assign [.Name x pos'] e pos) (tAsg te (gName i)) := by
  intro pins s σ H D I h
  refine wpAny_Assign_Name (thn (he pins s σ H _ I h) fun v s1 ⟨y, H1, I1, r1, q1⟩ => ?_) hs
  exact store_ok I1 hN hi hx r1 (fun s2 I2 => ⟨_, H1, I2, q1⟩) hf
def tPar (i j : Nat) (ta : TA) : TS := fun D σ H => ta σ H fun vs H1 => ∃ v w, vs = [v, w] ∧ D.nx ((σ.set i (some v)).set j (some w)) H1
end
section
variable {X : Cx} {pos : Pos}
def tWhile (c : TT) (tb : TS) : TS := fun D σ H => ∃ W : Nat → St → Hp → Prop, (∃ m, W m σ H) ∧ ∀ m σ H, W m σ H →
  c σ H fun b H1 => if b = true then ∃ N : St → Hp → Prop, (∀ σ' H', N σ' H' → ∃ m', m' < m ∧ W m' σ' H') ∧ tb { D with nx := N, ct := N, bk := D.nx } σ H1 else D.nx σ H1
theorem ps_while {c : Expr} {body : List Stmt} {tc : TT} {tb : TS} (hp : PassesOwn (model X.prog X.w) X.A X.env X.xe) (hc : PT X c tc) (hb : PSs X body tb) : PS X (.While c body [] pos) (tWhile tc tb) := by
  intro pins s σ H D I h
  obtain ⟨W, ⟨m0, w0⟩, turn⟩ := h
  refine wpAny_While (codeAny_whileLoop (fun n s' => ∃ σ' H', Inv X pins σ' H' s' ∧ W n σ' H') ?_ m0 ⟨σ, H, I, w0⟩)
  rintro n s1 ⟨σ1, H1, I1, w1⟩
  refine wpAny_passesOwn hp (thn (hc pins s1 σ1 H1 _ I1 (turn n σ1 H1 w1)) fun b s2 ⟨H2, I2, q2⟩ => ?_)
  cases b with
  | true =>
    obtain ⟨N, hN, q2⟩ := q2
    rw [if_pos rfl]
    refine wpAny_passesOwn hp (thn (hb pins s2 σ1 H2 _ I2 q2) fun f s3 q3 => ?_)
    cases f with
    | next =>
      obtain ⟨σ3, H3, I3, n3⟩ := q3
      obtain ⟨m', hm, w3⟩ := hN σ3 H3 n3
      exact ⟨m', hm, σ3, H3, I3, w3⟩
    | cont =>
      obtain ⟨σ3, H3, I3, n3⟩ := q3
      obtain ⟨m', hm, w3⟩ := hN σ3 H3 n3
      exact ⟨m', hm, σ3, H3, I3, w3⟩
    | brk => exact q3
    | ret v => exact q3
  | false =>
    rw [if_neg Bool.false_ne_true]
    exact wpAny_execs_nil ⟨σ1, H2, I2, q2⟩
end
structure It where
  go : Nat → Hp → Prop
  yld : Nat → Hp → V → Hp → Prop
  stop : Nat → Hp → Prop
def FpOk (X : Cx) (pins : List (Addr × Obj)) (H : Hp) (b : Addr) : Prop :=
  H b = none ∧ b ≠ X.env.locals ∧ b ∉ X.fs ∧ (b ∈ X.ex ∨ X.s₀.heap.objs.size ≤ b) ∧ (∀ x c, X.env.cells.lookup x = some c → c ≠ b) ∧ ∀ p ∈ X.pn ++ pins, p.1 ≠ b
theorem Inv.fpOk {X : Cx} {pins : List (Addr × Obj)} {σ : St} {H H' : Hp} {s : Shared} {b : Addr} (I : Inv X pins σ H s) (hb : s.heap.objs.size ≤ b) (hn : H' b = none) : FpOk X pins H' b := by
  refine ⟨hn, Nat.ne_of_gt (Nat.lt_of_lt_of_le I.lt hb), I.nofs hb, .inr (Nat.le_trans I.sz hb), fun x c e z => ?_, fun p hp z => ?_⟩
  · obtain ⟨v, q⟩ := I.cell x c e
    exact absurd (Nat.lt_of_lt_of_le q.lt (by rw [z]; exact hb)) (Nat.lt_irrefl _)
  · exact absurd (Nat.lt_of_lt_of_le (Heap.lt_size (I.pin p hp).1) (by rw [z]; exact hb)) (Nat.lt_irrefl _)
structure Turn (P : Program) (w : World) (K : PySem.W.Frag) (tg : Expr) (J : It) (fp : List Addr) (it : Addr) (tn : Nat → Heap → Prop) : Prop where
  mem : it ∈ fp
  obj : ∀ i h, tn i h → ∀ b ∈ fp, ∃ o, h.get? b = some o ∧ ∀ v, o.data ≠ .cell v
  keep : ∀ i h h', tn i h → (∀ b ∈ fp, ∀ o, h.get? b = some o → h'.get? b = some o) → tn i h'
  item : ∀ (X : Cx), X.prog = P → X.w = w → X.K = K → X.calm = true → ∀ (i : Nat) (pins : List (Addr × Obj)) (s : Shared) (σ : St) (H : Hp) (E : Value → Shared → Prop), Inv X pins σ H s → (∀ b ∈ fp, FpOk X pins H b) → tn i s.heap → J.go i H →
    wpAny (model P w) X.A (pyNext (.ref it)) (fun r s1 => ∃ u, r = some u ∧
      wpAny (model P w) X.A (letOwnedTupleGo tg (.ref it) u) (fun _ s2 => ∃ x H', Inv X pins σ H' s2 ∧ RelV x u ∧ J.yld i H x H' ∧ tn (i + 1) s2.heap ∧ ∀ b ∈ fp, H' b = none) E s1) E s
  done : ∀ (X : Cx), X.prog = P → X.w = w → X.K = K → X.calm = true → ∀ (i : Nat) (pins : List (Addr × Obj)) (s : Shared) (σ : St) (H : Hp) (E : Value → Shared → Prop), Inv X pins σ H s → (∀ b ∈ fp, FpOk X pins H b) → tn i s.heap → J.stop i H →
    wpAny (model P w) X.A (pyNext (.ref it)) (fun r s1 => r = none ∧ Inv X pins σ H s1) E s
  self : ∀ (A : Around) (i : Nat) (s : Shared) (Q : Value → Shared → Prop) (E : Value → Shared → Prop), tn i s.heap → Q (.ref it) s → wpAny (model P w) A (pyIter (.ref it)) Q E s
abbrev TI := St → Hp → (It → Hp → Prop) → Prop
def PIE (X : Cx) (pins : List (Addr × Obj)) (σ : St) (tg : Expr) (R : It → Hp → Prop) (itv : Value) (s2 : Shared) : Prop :=
  ∃ (it : Addr) (fp : List Addr) (tn : Nat → Heap → Prop) (J : It) (H' : Hp), itv = .ref it ∧ Inv X pins σ H' s2 ∧ Turn X.prog X.w X.K tg J fp it tn ∧ tn 0 s2.heap ∧ (∀ b ∈ fp, FpOk X pins H' b) ∧ R J H'
def PI (X : Cx) (tg iter : Expr) (wi : TI) : Prop :=
  ∀ (pins : List (Addr × Obj)) (s : Shared) (σ : St) (H : Hp) (R : It → Hp → Prop), Inv X pins σ H s → wi σ H R →
    wpAny (model X.prog X.w) X.A (eval iter X.env) (fun v s1 => wpAny (model X.prog X.w) X.A (pyIter v) (PIE X pins σ tg R) X.xe s1) X.xe s
theorem go_of {M : Model} {A : Around} {E : Value → Shared → Prop} {s : Shared} {tg : Expr} {it : Addr} {u : Value} {o : Obj} {n : String} {vs : Array Value} {Q : Unit → Shared → Prop} (ho : s.heap.get? it = some o) (hc : o.cls = .type n) (hd : o.data = .fields vs)
    (hn : ["enumerate", "zip", "dict_itemiterator", "dict_reverseitemiterator", "odict_iterator", "itertools.zip_longest", "itertools.pairwise"].contains n = false) (hQ : Q () s) : wpAny M A (letOwnedTupleGo tg (.ref it) u) Q E s := by
  unfold letOwnedTupleGo
  cases tg <;> first
    | exact wpAny_pure hQ
    | (cases u <;> first
        | exact wpAny_pure hQ
        | (refine wpAny_bind (wpAny_load ho ?_)
           rw [hc, hd]
           show wpAny M A (if (["enumerate", "zip", "dict_itemiterator", "dict_reverseitemiterator", "odict_iterator", "itertools.zip_longest", "itertools.pairwise"].contains n && vs[0]? == some (rawInt _)) = true then _ else _) Q E s
           rw [if_neg (by intro h; rw [hn, Bool.false_and] at h; cases h)]
           exact wpAny_pure hQ))
def Itl (K : PySem.W.Frag) (a : Addr) : It :=
  ⟨fun i H => ∃ xs x, SqL K H a xs ∧ xs[i]? = some x, fun i H x H' => H' = H ∧ ∀ xs, SqL K H a xs → xs[i]? = some x, fun i H => ∃ xs, SqL K H a xs ∧ xs.length ≤ i⟩
def Itt (K : PySem.W.Frag) (a : Addr) : It :=
  ⟨fun i H => ∃ xs x, SqT K H a xs ∧ xs[i]? = some x, fun i H x H' => H' = H ∧ ∀ xs, SqT K H a xs → xs[i]? = some x, fun i H => ∃ xs, SqT K H a xs ∧ xs.length ≤ i⟩
def Itr (lo : Int) (n : Nat) : It := ⟨fun i _ => i < n, fun i H x H' => H' = H ∧ x = .int (lo + i), fun i _ => n ≤ i⟩
theorem turn_list {P : Program} {w : World} {K : PySem.W.Frag} {tg : Expr} (a it : Addr) : Turn P w K tg (Itl K a) [it] it (fun i h => h.IsListIter it a i) where
  mem := by simp
  obj := fun i h st b hb => by
    have e : b = it := by simpa using hb
    subst e
    obtain ⟨o, e, c, d⟩ := st
    exact ⟨o, e, fun v z => by rw [d] at z; cases z⟩
  keep := fun i h h' st k => st.at fun o e => k it (by simp) o e
  item := by
    intro X hP hw hK hc i pins s σ H E I hf st hg
    subst hP hw hK
    obtain ⟨xs, x, hq, hx⟩ := hg
    obtain ⟨its, rv, p, hz⟩ := I.list hq
    obtain ⟨u, hu, ru⟩ := rv.get hx
    obtain ⟨f0, f1, f2, f3, f4, f5⟩ := hf it (by simp)
    refine wpAny_pyNext_list_item st p.isList (x := u) (by simpa using hu) fun h' st' sb => ?_
    have I1 : Inv X pins σ H { s with heap := h' } := I.turned (t' := s.toks) (fun b o hb e => (sb.2 b hb).trans e) f0 f1 f3 f4 f5
    obtain ⟨o, e, c, d⟩ := id st'
    exact ⟨u, rfl, go_of (s := { s with heap := h' }) e c d (by decide) ⟨x, H, I1, ru, ⟨rfl, fun ys hy => by rw [I.list_inj hy hq]; exact hx⟩, st', fun b hb => (hf b hb).1⟩⟩
  done := by
    intro X hP hw hK hc i pins s σ H E I hf st hg
    subst hP hw hK
    obtain ⟨xs, hq, hx⟩ := hg
    obtain ⟨its, rv, p, hz⟩ := I.list hq
    obtain ⟨f0, f1, f2, f3, f4, f5⟩ := hf it (by simp)
    have hl := rv.length
    exact wpAny_pyNext_list_end (I.ok.hd hc) st p.isList (by simp; omega) fun h' eb => ⟨rfl, I.turned (t' := s.toks) (fun b o hb e => eb b o hb e) f0 f1 f3 f4 f5⟩
  self := fun _ _ _ _ _ st h => wpAny_pyIter_listiter st h
theorem turn_tuple {P : Program} {w : World} {K : PySem.W.Frag} {tg : Expr} (a it : Addr) : Turn P w K tg (Itt K a) [it] it (fun i h => h.IsTupleIter it a i) where
  mem := by simp
  obj := fun i h st b hb => by
    have e : b = it := by simpa using hb
    subst e
    obtain ⟨o, e, c, d⟩ := st
    exact ⟨o, e, fun v z => by rw [d] at z; cases z⟩
  keep := fun i h h' st k => st.at fun o e => k it (by simp) o e
  item := by
    intro X hP hw hK hc i pins s σ H E I hf st hg
    subst hP hw hK
    obtain ⟨xs, x, hq, hx⟩ := hg
    obtain ⟨its, rv, p, hz⟩ := I.tuple hq
    obtain ⟨u, hu, ru⟩ := rv.get hx
    obtain ⟨f0, f1, f2, f3, f4, f5⟩ := hf it (by simp)
    refine wpAny_pyNext_tuple_item st (show s.heap.IsTuple a its.toArray from p) (x := u) (by simpa using hu) fun h' st' sb => ?_
    have I1 : Inv X pins σ H { s with heap := h' } := I.turned (t' := s.toks) (fun b o hb e => (sb.2 b hb).trans e) f0 f1 f3 f4 f5
    obtain ⟨o, e, c, d⟩ := id st'
    exact ⟨u, rfl, go_of (s := { s with heap := h' }) e c d (by decide) ⟨x, H, I1, ru, ⟨rfl, fun ys hy => by rw [I.tuple_inj hy hq]; exact hx⟩, st', fun b hb => (hf b hb).1⟩⟩
  done := by
    intro X hP hw hK hc i pins s σ H E I hf st hg
    subst hP hw hK
    obtain ⟨xs, hq, hx⟩ := hg
    obtain ⟨its, rv, p, hz⟩ := I.tuple hq
    obtain ⟨f0, f1, f2, f3, f4, f5⟩ := hf it (by simp)
    have hl := rv.length
    exact wpAny_pyNext_tuple_end (I.ok.hd hc) st (show s.heap.IsTuple a its.toArray from p) (by simp; omega) fun h' eb => ⟨rfl, I.turned (t' := s.toks) (fun b o hb e => eb b o hb e) f0 f1 f3 f4 f5⟩
  self := fun _ _ _ _ _ st h => wpAny_pyIter_tupleiter st h
theorem turn_range {P : Program} {w : World} {K : PySem.W.Frag} {tg : Expr} (it : Addr) (lo : Int) (n : Nat) : Turn P w K tg (Itr lo n) [it] it (fun i h => IsRangeIter h it (lo + (i : Nat) * 1) ((n : Int) - (i : Nat)) 1) where
  mem := by simp
  obj := fun i h st b hb => by
    have e : b = it := by simpa using hb
    subst e
    exact ⟨_, st, fun v z => by
      have z' : Data.fields _ = Data.cell v := z
      cases z'⟩
  keep := fun i h h' st k => k it (by simp) _ st
  item := by
    intro X hP hw hK hc i pins s σ H E I hf st hg
    subst hP hw hK
    obtain ⟨f0, f1, f2, f3, f4, f5⟩ := hf it (by simp)
    have W := Walks.range (prog := X.prog) (w := X.w) (I.ok.hd hc) it lo 1 n
    refine W.item i s _ _ hg st fun v h' tk hv st' kk => ?_
    obtain ⟨t, rfl⟩ := hv
    have I1 : Inv X pins σ H { s with heap := h', toks := tk } := I.turned (fun b o hb e => kk b o (by simpa using hb) e) f0 f1 f3 f4 f5
    refine ⟨_, rfl, go_of (s := { s with heap := h', toks := tk }) (n := "range_iterator") st' rfl rfl (by decide) ⟨.int (lo + i), H, I1, ⟨t, ?_⟩, ⟨rfl, rfl⟩, st', fun b hb => (hf b hb).1⟩⟩
    rw [Int.mul_one]
  done := by
    intro X hP hw hK hc i pins s σ H E I hf st hg
    subst hP hw hK
    obtain ⟨f0, f1, f2, f3, f4, f5⟩ := hf it (by simp)
    exact wpAny_pyNext_range_end (I.ok.hd hc) st (by have : n ≤ i := hg; omega) fun h' eb => ⟨rfl, I.turned (t' := s.toks) (fun b o hb e => eb b o hb e) f0 f1 f3 f4 f5⟩
  self := fun _ _ _ _ _ st h => wpAny_pyIter_rangeiter st h
end L2
namespace L2
open PySem PySem.Spec PyProof.Rows
section
variable {X : Cx} {tg : Expr}
def iList (K : PySem.W.Frag) (tl : TE) : TI := fun σ H R => tl σ H fun x H1 => ∃ a, x = .ref a ∧ (∃ xs, SqL K H1 a xs) ∧ R (Itl K a) H1
def iTup (K : PySem.W.Frag) (tl : TE) : TI := fun σ H R => tl σ H fun x H1 => ∃ a, x = .ref a ∧ (∃ xs, SqT K H1 a xs) ∧ R (Itt K a) H1
theorem pi_list {l : Expr} {tl : TE} (hl : PE X l tl) : PI X tg l (iList X.K tl) := by
  intro pins s σ H R I h
  refine thn (hl pins s σ H _ I h) fun v s1 ⟨x, H1, I1, r1, q1⟩ => ?_
  obtain ⟨a, e, ⟨xs, hq⟩, q⟩ := q1
  subst e
  cases r1
  obtain ⟨its, rv, p, hz⟩ := I1.list hq
  refine wpAny_pyIter_list p.isList ?_
  refine ⟨s1.heap.objs.size, [s1.heap.objs.size], _, _, H1, rfl, I1.kept (t' := s1.toks) fun b o e => Heap.get?_push_of_some _ e, turn_list a _, ⟨_, Heap.get?_push_size _ rfl, rfl, rfl⟩, fun b hb => ?_, q⟩
  have e : b = s1.heap.objs.size := by simpa using hb
  subst e
  exact I1.fpOk (Nat.le_refl _) (I1.hok.fresh (Nat.le_refl _))
theorem pi_tup {l : Expr} {tl : TE} (hl : PE X l tl) : PI X tg l (iTup X.K tl) := by
  intro pins s σ H R I h
  refine thn (hl pins s σ H _ I h) fun v s1 ⟨x, H1, I1, r1, q1⟩ => ?_
  obtain ⟨a, e, ⟨xs, hq⟩, q⟩ := q1
  subst e
  cases r1
  obtain ⟨its, rv, p, hz⟩ := I1.tuple hq
  refine wpAny_pyIter_tuple (show s1.heap.IsTuple a its.toArray from p) ?_
  refine ⟨s1.heap.objs.size, [s1.heap.objs.size], _, _, H1, rfl, I1.kept (t' := s1.toks) fun b o e => Heap.get?_push_of_some _ e, turn_tuple a _, ⟨_, Heap.get?_push_size _ rfl, rfl, rfl⟩, fun b hb => ?_, q⟩
  have e : b = s1.heap.objs.size := by simpa using hb
  subst e
  exact I1.fpOk (Nat.le_refl _) (I1.hok.fresh (Nat.le_refl _))
theorem range_it {pins : List (Addr × Obj)} {σ : St} {H : Hp} {s : Shared} {R : It → Hp → Prop} {E : Value → Shared → Prop} {lo hi : Int} {t u v : Tok} {tk : Nat} (I : Inv X pins σ H s) (h1 : -(2 ^ 62) ≤ lo) (h2 : lo < 2 ^ 62) (h3 : -(2 ^ 62) ≤ hi) (h4 : hi < 2 ^ 62)
    (q : R (Itr lo (hi - lo).toNat) H) : wpAny (model X.prog X.w) X.A (pyIter (.ref s.heap.objs.size)) (PIE X pins σ tg R) E { s with heap := s.heap.push { cls := .type "range", data := .fields #[.int lo t, .int hi u, .int 1 v] }, toks := tk } := by
  refine wpAny_pyIter_range (IsRange.new ..) (small_one h1 h2 h3 h4) ?_
  have I1 : Inv X pins σ H { s with heap := s.heap.push { cls := .type "range", data := .fields #[.int lo t, .int hi u, .int 1 v] }, toks := tk } := I.kept fun b o e => Heap.get?_push_of_some _ e
  refine ⟨(s.heap.push { cls := .type "range", data := .fields #[.int lo t, .int hi u, .int 1 v] }).objs.size, [(s.heap.push { cls := .type "range", data := .fields #[.int lo t, .int hi u, .int 1 v] }).objs.size], _, _, H, rfl,
    I1.kept (t' := tk) fun b o e => Heap.get?_push_of_some _ e, turn_range _ lo (hi - lo).toNat, ?_, fun b hb => ?_, q⟩
  · have e1 : lo + ((0 : Nat) : Int) * 1 = lo := by simp
    have e2 : (((hi - lo).toNat : Nat) : Int) - ((0 : Nat) : Int) = Builtin.Range.rangeSize lo hi 1 := by rw [rangeSize_one]; split <;> omega
    show IsRangeIter _ _ (lo + ((0 : Nat) : Int) * 1) ((((hi - lo).toNat : Nat) : Int) - ((0 : Nat) : Int)) 1
    rw [e1, e2]
    exact Heap.get?_push_size _ rfl
  · have e : b = (s.heap.push { cls := .type "range", data := .fields #[.int lo t, .int hi u, .int 1 v] }).objs.size := by simpa using hb
    subst e
    exact I1.fpOk (Nat.le_refl _) (I1.hok.fresh (Nat.le_refl _))
def iRng1 (ta : TA) : TI := fun σ H R => ta σ H fun vs H1 => ∃ j : Int, vs = [.int j] ∧ -(2 ^ 62) ≤ j ∧ j < 2 ^ 62 ∧ R (Itr 0 j.toNat) H1
def iRng2 (ta : TA) : TI := fun σ H R => ta σ H fun vs H1 => ∃ i j : Int, vs = [.int i, .int j] ∧ (-(2 ^ 62) ≤ i ∧ i < 2 ^ 62 ∧ -(2 ^ 62) ≤ j ∧ j < 2 ^ 62) ∧ R (Itr i (j - i).toNat) H1
theorem pi_range1 {a : Expr} {ta : TA} {p pos : Pos} (hg : Gl X "range") (hm : X.mg "range" = none) (ha : PA X [a] ta) (hs : starEach [a] X.env = [(false, eval a X.env)] := by rfl) : PI X tg (.Call (.Name "range" p) [a] [] pos) (iRng1 ta) := by
  intro pins s σ H R I h
  refine Call_ (ld_blt I hg hm boot_range (PyProof.Rows.callWith_type1 (thn (ha pos pins s σ H _ I h) fun us s1 ⟨vs, H1, I1, r1, q1⟩ => ?_) hs rfl))
  obtain ⟨j, e, q1, q2, q⟩ := q1
  subst e
  cases r1 with
  | cons r rr =>
    cases rr
    obtain ⟨t, rfl⟩ := r
    exact call_range_1 (range_it I1 (by omega) (by omega) q1 q2 (by simpa using q))
theorem pi_range2 {a b : Expr} {ta : TA} {p pos : Pos} (hg : Gl X "range") (hm : X.mg "range" = none) (ha : PA X [a, b] ta) (hs : starEach [a, b] X.env = [(false, eval a X.env), (false, eval b X.env)] := by rfl) (hs2 : starEach [b] X.env = [(false, eval b X.env)] := by rfl) :
    PI X tg (.Call (.Name "range" p) [a, b] [] pos) (iRng2 ta) := by
  intro pins s σ H R I h
  refine Call_ (ld_blt I hg hm boot_range (PyProof.Rows.callWith_type1 (thn (ha pos pins s σ H _ I h) fun us s1 ⟨vs, H1, I1, r1, q1⟩ => ?_) (by rw [hs, hs2]) (by rw [hs2]; rfl)))
  obtain ⟨i, j, e, ⟨q1, q2, q3, q4⟩, q⟩ := q1
  subst e
  cases r1 with
  | cons r rr =>
    cases rr with
    | cons r' rr =>
      cases rr
      obtain ⟨t, rfl⟩ := r
      obtain ⟨t', rfl⟩ := r'
      exact call_range_2 (range_it I1 q1 q2 q3 q4 q)
def tFor (wi : TI) (g : TG) (tb : TS) : TS := fun D σ H => wi σ H fun J H1 => ∃ W : Nat → Nat → St → Hp → Prop, (∃ m, W 0 m σ H1) ∧ ∀ i m σ H, W i m σ H →
  (J.stop i H ∧ D.nx σ H) ∨ (J.go i H ∧ ∃ N : St → Hp → Prop, (∀ σ' H', N σ' H' → ∃ m', m' < m ∧ W (i + 1) m' σ' H') ∧ ∀ x H', J.yld i H x H' → g x σ H' fun σ2 H2 => tb { D with nx := N, ct := N, bk := D.nx } σ2 H2)
def pinsAt (fp : List Addr) (h : Heap) : List (Addr × Obj) := fp.filterMap fun b => (h.get? b).map fun o => (b, o)
theorem mem_pinsAt {fp : List Addr} {h : Heap} {b : Addr} {o : Obj} (hb : b ∈ fp) (e : h.get? b = some o) : (b, o) ∈ pinsAt fp h := List.mem_filterMap.mpr ⟨b, hb, by rw [e]; rfl⟩
theorem of_pinsAt {fp : List Addr} {h : Heap} {p : Addr × Obj} (hp : p ∈ pinsAt fp h) : p.1 ∈ fp ∧ h.get? p.1 = some p.2 := by
  obtain ⟨b, hb, e⟩ := List.mem_filterMap.mp hp
  cases q : h.get? b with
  | none => rw [q] at e; cases e
  | some o =>
    rw [q] at e
    have e' : (b, o) = p := Option.some.inj e
    subst e'
    exact ⟨hb, q⟩
theorem Inv.pinned {pins : List (Addr × Obj)} {σ : St} {H : Hp} {s : Shared} {fp : List Addr} (I : Inv X pins σ H s) (hf : ∀ b ∈ fp, FpOk X pins H b) (ho : ∀ b ∈ fp, ∃ o, s.heap.get? b = some o ∧ ∀ v, o.data ≠ .cell v) : Inv X (pins ++ pinsAt fp s.heap) σ H s :=
  I.pins_of fun p hp => (List.mem_append.mp hp).elim (fun z => I.pin p (List.mem_append_right _ z)) fun z => by
    obtain ⟨hb, e⟩ := of_pinsAt z
    obtain ⟨f0, f1, f2, _⟩ := hf p.1 hb
    obtain ⟨o, e', d⟩ := ho p.1 hb
    rw [e] at e'; cases e'
    exact ⟨e, f0, f1, f2, d⟩
theorem Inv.unpinned {pins pl : List (Addr × Obj)} {σ : St} {H : Hp} {s : Shared} (I : Inv X (pins ++ pl) σ H s) : Inv X pins σ H s := I.pins_of fun p hp => I.pin p (List.mem_append_right _ (List.mem_append_left _ hp))
theorem ps_for {iter : Expr} {body : List Stmt} {wi : TI} {g : TG} {tb : TS} {pos : Pos} (hp : PassesOwn (model X.prog X.w) X.A X.env X.xe) (hc : X.calm = true) (hi : PI X tg iter wi) (hg : PG X tg g) (hb : PSs X body tb)
    (hs : ∀ x, foldedSetIterable iter X.env x = pure x := by intro _; rfl) : PS X (.For tg iter body [] pos) (tFor wi g tb) := by
  intro pins s σ H D I h
  refine wpAny_For (thn (hi pins s σ H _ I h) fun v s1 h1 => thn h1 fun itv s2 h2 => ?_) hs
  obtain ⟨it, fp, tn, J, H2, e, I2, T, st2, f2, W, ⟨m0, w0⟩, turn⟩ := h2
  subst e
  -- what stays true of the iterator's objects through the loop
  have stat : ∀ {H' : Hp}, (∀ b ∈ fp, H' b = none) → ∀ b ∈ fp, FpOk X pins H' b := fun hn b hb => ⟨hn b hb, (f2 b hb).2⟩
  refine codeAny_forLoop_any (fun n s' => ∃ i σ' H', Inv X pins σ' H' s' ∧ tn i s'.heap ∧ (∀ b ∈ fp, H' b = none) ∧ W i n σ' H') ?_ m0 ⟨0, σ, H2, I2, st2, fun b hb => (f2 b hb).1, w0⟩
  rintro n s3 ⟨i, σ3, H3, I3, st3, fr3, w3⟩
  rcases turn i n σ3 H3 w3 with ⟨stop, qn⟩ | ⟨go, N, hN, step⟩
  · refine wpAny_passesOwn hp (thn (T.done X rfl rfl rfl hc i pins s3 σ3 H3 X.xe I3 (stat fr3) st3 stop) fun r s4 ⟨hr, I4⟩ => ?_)
    subst hr
    exact wpAny_execs_nil ⟨σ3, H3, I4, qn⟩
  · refine wpAny_passesOwn hp (thn (T.item X rfl rfl rfl hc i pins s3 σ3 H3 X.xe I3 (stat fr3) st3 go) fun r s4 ⟨u, hr, h4⟩ => ?_)
    subst hr
    refine wpAny_passesOwn hp (thn h4 fun _ s5 ⟨x, H5, I5, r5, y5, st5, fr5⟩ => ?_)
    have I5' := I5.pinned (stat fr5) (T.obj _ _ st5)
    refine wpAny_passesOwn hp (thn (hg _ s5 σ3 H5 x u _ I5' r5 (step x H5 y5)) fun _ s6 ⟨σ6, H6, I6, q6⟩ => ?_)
    refine wpAny_passesOwn hp (thn (hb _ s6 σ6 H6 _ I6 q6) fun f s7 q7 => ?_)
    have again : ∀ {σ7 : St} {H7 : Hp}, Inv X (pins ++ pinsAt fp s5.heap) σ7 H7 s7 → N σ7 H7 → ∃ m, m < n ∧ ∃ i σ' H', Inv X pins σ' H' s7 ∧ tn i s7.heap ∧ (∀ b ∈ fp, H' b = none) ∧ W i m σ' H' := fun {σ7 H7} I7 n7 => by
      obtain ⟨m', hm, w7⟩ := hN σ7 H7 n7
      refine ⟨m', hm, i + 1, σ7, H7, I7.unpinned, T.keep _ _ _ st5 fun b hb o e => (I7.pin (b, o) (List.mem_append_right _ (List.mem_append_right _ (mem_pinsAt hb e)))).1, fun b hb => ?_, w7⟩
      obtain ⟨o, e, d⟩ := T.obj _ _ st5 b hb
      exact (I7.pin (b, o) (List.mem_append_right _ (List.mem_append_right _ (mem_pinsAt hb e)))).2.1
    cases f with
    | next => obtain ⟨σ7, H7, I7, n7⟩ := q7; exact again I7 n7
    | cont => obtain ⟨σ7, H7, I7, n7⟩ := q7; exact again I7 n7
    | brk => obtain ⟨σ7, H7, I7, q7⟩ := q7; exact ⟨σ7, H7, I7.unpinned, q7⟩
    | ret v => obtain ⟨x7, σ7, H7, I7, r7, q7⟩ := q7; exact ⟨x7, σ7, H7, I7.unpinned, r7, q7⟩
end
theorem for_list {K : PySem.W.Frag} {a : Addr} {xs : List V} {g : TG} {tb : TS} {D : Ends} {σ : St} {H : Hp} (Pv : Nat → St → Hp → Prop) (h0 : Pv 0 σ H) (hl : ∀ i σ H, i ≤ xs.length → Pv i σ H → SqL K H a xs)
    (hs : ∀ i x σ H, xs[i]? = some x → Pv i σ H → g x σ H fun σ2 H2 => tb { D with nx := Pv (i + 1), ct := Pv (i + 1), bk := D.nx } σ2 H2) (hd : ∀ σ H, Pv xs.length σ H → D.nx σ H) :
    ∃ W : Nat → Nat → St → Hp → Prop, (∃ m, W 0 m σ H) ∧ ∀ i m σ H, W i m σ H →
      ((Itl K a).stop i H ∧ D.nx σ H) ∨ ((Itl K a).go i H ∧ ∃ N : St → Hp → Prop, (∀ σ' H', N σ' H' → ∃ m', m' < m ∧ W (i + 1) m' σ' H') ∧ ∀ x H', (Itl K a).yld i H x H' → g x σ H' fun σ2 H2 => tb { D with nx := N, ct := N, bk := D.nx } σ2 H2) := by
  refine ⟨fun i m σ H => m = xs.length - i ∧ i ≤ xs.length ∧ Pv i σ H, ⟨xs.length, by simp, Nat.zero_le _, h0⟩, ?_⟩
  rintro i m σ H ⟨rfl, hi, p⟩
  have q := hl i σ H hi p
  by_cases hlt : i < xs.length
  · refine .inr ⟨⟨xs, xs[i], q, by simp [hlt]⟩, Pv (i + 1), fun σ' H' p' => ⟨xs.length - (i + 1), by omega, rfl, hlt, p'⟩, fun x H' y => ?_⟩
    obtain ⟨e, y⟩ := y
    subst e
    exact hs i x σ _ (y xs q) p
  · have e : i = xs.length := by omega
    subst e
    exact .inl ⟨⟨xs, q, Nat.le_refl _⟩, hd σ H p⟩
theorem for_range {lo : Int} {n : Nat} {g : TG} {tb : TS} {D : Ends} {σ : St} {H : Hp} (Pv : Nat → St → Hp → Prop) (h0 : Pv 0 σ H)
    (hs : ∀ i σ H, i < n → Pv i σ H → g (.int (lo + i)) σ H fun σ2 H2 => tb { D with nx := Pv (i + 1), ct := Pv (i + 1), bk := D.nx } σ2 H2) (hd : ∀ σ H, Pv n σ H → D.nx σ H) :
    ∃ W : Nat → Nat → St → Hp → Prop, (∃ m, W 0 m σ H) ∧ ∀ i m σ H, W i m σ H →
      ((Itr lo n).stop i H ∧ D.nx σ H) ∨ ((Itr lo n).go i H ∧ ∃ N : St → Hp → Prop, (∀ σ' H', N σ' H' → ∃ m', m' < m ∧ W (i + 1) m' σ' H') ∧ ∀ x H', (Itr lo n).yld i H x H' → g x σ H' fun σ2 H2 => tb { D with nx := N, ct := N, bk := D.nx } σ2 H2) := by
  refine ⟨fun i m σ H => m = n - i ∧ i ≤ n ∧ Pv i σ H, ⟨n, by simp, Nat.zero_le _, h0⟩, ?_⟩
  rintro i m σ H ⟨rfl, hi, p⟩
  by_cases hlt : i < n
  · refine .inr ⟨hlt, Pv (i + 1), fun σ' H' p' => ⟨n - (i + 1), by omega, rfl, hlt, p'⟩, fun x H' y => ?_⟩
    obtain ⟨e, y⟩ := y
    subst e y
    exact hs i σ _ hlt p
  · have e : i = n := by omega
    subst e
    exact .inl ⟨Nat.le_refl _, hd σ H p⟩
theorem while_by {c : TT} {tb : TS} {D : Ends} {σ : St} {H : Hp} (Pv : St → Hp → Prop) (μ : St → Hp → Nat) (h0 : Pv σ H)
    (hs : ∀ σ H, Pv σ H → c σ H fun b H1 => if b = true then tb { D with nx := fun σ' H' => Pv σ' H' ∧ μ σ' H' < μ σ H, ct := fun σ' H' => Pv σ' H' ∧ μ σ' H' < μ σ H, bk := D.nx } σ H1 else D.nx σ H1)
    (mono : ∀ σ H Q Q', (∀ b H1, Q b H1 → Q' b H1) → c σ H Q → c σ H Q') : tWhile c tb D σ H := by
  refine ⟨fun m σ H => m = μ σ H ∧ Pv σ H, ⟨_, rfl, h0⟩, ?_⟩
  rintro m σ H ⟨rfl, p⟩
  refine mono σ H _ _ (fun b H1 q => ?_) (hs σ H p)
  cases b with
  | true => exact ⟨_, fun σ' H' ⟨p', l⟩ => ⟨_, l, rfl, p'⟩, q⟩
  | false => exact q
end L2
namespace L2
open PySem PySem.Spec PyProof.Rows
abbrev R2 := V → V → Hp → VK → Prop
def OpR (X : Cx) (f : Value → Value → Sem Value) (r : R2) : Prop :=
  ∀ (pins : List (Addr × Obj)) (s : Shared) (σ : St) (H : Hp) (x y : V) (v u : Value) (Q : VK), Inv X pins σ H s → RelV x v → RelV y u → r x y H Q →
    wpAny (model X.prog X.w) X.A (f v u) (EP X pins σ Q) X.xe s
def UnR (X : Cx) (f : Value → Sem Value) (r : V → Hp → VK → Prop) : Prop :=
  ∀ (pins : List (Addr × Obj)) (s : Shared) (σ : St) (H : Hp) (x : V) (v : Value) (Q : VK), Inv X pins σ H s → RelV x v → r x H Q →
    wpAny (model X.prog X.w) X.A (f v) (EP X pins σ Q) X.xe s
def CallR (X : Cx) (f : Value) (r : List V → Hp → VK → Prop) : Prop :=
  ∀ (pins : List (Addr × Obj)) (s : Shared) (σ : St) (H : Hp) (xs : List V) (us : List Value) (Q : VK), Inv X pins σ H s → Vals xs us → r xs H Q →
    wpAny (model X.prog X.w) X.A (call f us) (EP X pins σ Q) X.xe s
def tOp (r : R2) (ta tb : TE) : TE := fun σ H Q => ta σ H fun x H1 => tb σ H1 fun y H2 => r x y H2 Q
def tUn (r : V → Hp → VK → Prop) (ta : TE) : TE := fun σ H Q => ta σ H fun x H1 => r x H1 Q
def rI (C : Int → Int → Prop) (g : Int → Int → V) : R2 := fun x y H Q => ∃ i j, x = .int i ∧ y = .int j ∧ C i j ∧ Q (g i j) H
def rI0 (g : Int → Int → V) : R2 := fun x y H Q => ∃ i j, x = .int i ∧ y = .int j ∧ Q (g i j) H
def rU (g : Int → V) : V → Hp → VK → Prop := fun x H Q => ∃ i, x = .int i ∧ Q (g i) H
section
variable {X : Cx} {a b c : Expr} {ta tb tc : TE} {pos : Pos}
theorem binT (ha : PE X a ta) (hb : PE X b tb) {pins : List (Addr × Obj)} {s : Shared} {σ : St} {H : Hp} {R : V → V → Hp → Prop} (I : Inv X pins σ H s)
    (h : ta σ H fun x H1 => tb σ H1 fun y H2 => R x y H2) {Q : Value → Shared → Prop} {f : Value → Value → Sem Value}
    (hf : ∀ v u s2 x y H2, Inv X pins σ H2 s2 → RelV x v → RelV y u → R x y H2 → wpAny (model X.prog X.w) X.A (f v u) Q X.xe s2) :
    wpAny (model X.prog X.w) X.A (eval a X.env) (fun v s₁ => wpAny (model X.prog X.w) X.A (eval b X.env) (fun u s₂ => wpAny (model X.prog X.w) X.A (f v u) Q X.xe s₂) X.xe s₁) X.xe s := by
  refine thn (ha pins s σ H _ I h) fun v s1 ⟨x, H1, I1, r1, q1⟩ => ?_
  refine thn (hb pins s1 σ H1 _ I1 q1) fun u s2 ⟨y, H2, I2, r2, q2⟩ => ?_
  exact hf v u s2 x y H2 I2 r1 r2 q2
theorem pe_op {op : Operator} {r : R2} (ho : OpR X (binaryOp op) r) (ha : PE X a ta) (hb : PE X b tb) : PE X (.BinOp a op b pos) (tOp r ta tb) := by
  intro pins s σ H Q I h
  exact wpAny_BinOp (binT ha hb I h fun v u s2 x y H2 I2 rx ry q => ho pins s2 σ H2 x y v u Q I2 rx ry q)
theorem pe_un {op : UnaryOp} {r : V → Hp → VK → Prop} (ho : UnR X (unaryOp op) r) (ha : PE X a ta) : PE X (.UnaryOp op a pos) (tUn r ta) := by
  intro pins s σ H Q I h
  exact UnaryOp_ (thn (ha pins s σ H _ I h) fun v s1 ⟨x, H1, I1, r1, q1⟩ => ho pins s1 σ H1 x v Q I1 r1 q1)
theorem opI {f : Value → Value → Sem Value} {C : Int → Int → Prop} {g : Int → Int → Int}
    (rule : ∀ (i j : Int) (t u : Tok) (s : Shared) (Q : Value → Shared → Prop) (E : Value → Shared → Prop), C i j → Q (.int (g i j) s.toks) { s with toks := s.toks + 1 } → wpAny (model X.prog X.w) X.A (f (.int i t) (.int j u)) Q E s) :
    OpR X f (rI C fun i j => .int (g i j)) := by
  intro pins s σ H x y v u Q I rx ry h
  obtain ⟨i, j, rfl, rfl, hc, q⟩ := h
  obtain ⟨t, rfl⟩ := rx
  obtain ⟨t', rfl⟩ := ry
  exact rule i j t t' s _ _ hc ⟨.int (g i j), H, I.tok _, ⟨_, rfl⟩, q⟩
theorem opI0 {f : Value → Value → Sem Value} {g : Int → Int → Int}
    (rule : ∀ (i j : Int) (t u : Tok) (s : Shared) (Q : Value → Shared → Prop) (E : Value → Shared → Prop), Q (.int (g i j) s.toks) { s with toks := s.toks + 1 } → wpAny (model X.prog X.w) X.A (f (.int i t) (.int j u)) Q E s) :
    OpR X f (rI0 fun i j => .int (g i j)) := by
  intro pins s σ H x y v u Q I rx ry h
  obtain ⟨i, j, rfl, rfl, q⟩ := h
  obtain ⟨t, rfl⟩ := rx
  obtain ⟨t', rfl⟩ := ry
  exact rule i j t t' s _ _ ⟨.int (g i j), H, I.tok _, ⟨_, rfl⟩, q⟩
theorem opB0 {f : Value → Value → Sem Value} {g : Int → Int → Bool}
    (rule : ∀ (i j : Int) (t u : Tok) (s : Shared) (Q : Value → Shared → Prop) (E : Value → Shared → Prop), Q (.bool (g i j)) s → wpAny (model X.prog X.w) X.A (f (.int i t) (.int j u)) Q E s) :
    OpR X f (rI0 fun i j => .bl (g i j)) := by
  intro pins s σ H x y v u Q I rx ry h
  obtain ⟨i, j, rfl, rfl, q⟩ := h
  obtain ⟨t, rfl⟩ := rx
  obtain ⟨t', rfl⟩ := ry
  exact rule i j t t' s _ _ ⟨.bl (g i j), H, I, rfl, q⟩
def CPow (i j : Int) : Prop := 0 ≤ j ∧ j ≤ 1000000 ∧ i.natAbs < 2 ^ 64
def CMul (i j : Int) : Prop := (-(2 ^ 64) < i ∧ i < 2 ^ 64) ∨ (-(2 ^ 64) < j ∧ j < 2 ^ 64)
theorem CMul.ok {i j : Int} (h : CMul i j) : IntMulOk i j := by
  rcases h with ⟨h1, h2⟩ | ⟨h1, h2⟩
  · exact .of_left (intBits_le_64 h1 h2)
  · exact .of_right (intBits_le_64 h1 h2)
theorem op_add : OpR X (binaryOp .Add) (rI0 fun i j => .int (i + j)) := opI0 fun _ _ _ _ _ _ _ q => add_int q
theorem op_sub : OpR X (binaryOp .Sub) (rI0 fun i j => .int (i - j)) := opI0 fun _ _ _ _ _ _ _ q => sub_int q
theorem op_mul : OpR X (binaryOp .Mult) (rI CMul fun i j => .int (i * j)) := opI fun _ _ _ _ _ _ _ hc q => mul_int q hc.ok
theorem op_mod : OpR X (binaryOp .Mod) (rI (fun _ j => 0 < j) fun i j => .int (i % j)) := opI fun i j _ _ _ _ _ hc q => by
  have h1 : (0 : Int) < j := hc
  exact mod_int' (by omega) (by rw [Int.fmod_eq_emod_of_nonneg i (by omega)]; exact q)
theorem op_pow : OpR X (binaryOp .Pow) (rI CPow fun i j => .int (i ^ j.toNat)) := opI fun _ _ _ _ _ _ _ hc q => pow_int_small hc.1 hc.2.1 hc.2.2 q
theorem unI {f : Value → Sem Value} {g : Int → Int}
    (rule : ∀ (i : Int) (t : Tok) (s : Shared) (Q : Value → Shared → Prop) (E : Value → Shared → Prop), Q (.int (g i) s.toks) { s with toks := s.toks + 1 } → wpAny (model X.prog X.w) X.A (f (.int i t)) Q E s) :
    UnR X f (rU fun i => .int (g i)) := by
  intro pins s σ H x v Q I rx h
  obtain ⟨i, rfl, q⟩ := h
  obtain ⟨t, rfl⟩ := rx
  exact rule i t s _ _ ⟨.int (g i), H, I.tok _, ⟨_, rfl⟩, q⟩
theorem un_neg : UnR X (unaryOp .USub) (rU fun i => .int (-i)) := unI fun _ _ _ _ _ q => neg_int q
end
def scal : V → V → Bool
  | .non, .non => true | .non, .int _ => true | .int _, .non => true | .non, .bl _ => true | .bl _, .non => true | .non, .str _ => true | .str _, .non => true
  | .int _, .int _ => true | .bl _, .bl _ => true | .str _, .str _ => true | .byt _, .byt _ => true
  | .int _, .str _ => true | .str _, .int _ => true | .bl _, .str _ => true | .str _, .bl _ => true
  | _, _ => false
def rEq : R2 := fun x y H Q => scal x y = true ∧ Q (.bl (decide (x = y))) H
def rNe : R2 := fun x y H Q => scal x y = true ∧ Q (.bl (!decide (x = y))) H
theorem dec_int {i j : Int} : decide (V.int i = V.int j) = (i == j) := by
  rw [Bool.eq_iff_iff]
  simp
theorem dec_bl {i j : Bool} : decide (V.bl i = V.bl j) = (i == j) := by
  rw [Bool.eq_iff_iff]
  simp
theorem dec_str {i j : Str} : decide (V.str i = V.str j) = (i == j) := by
  rw [Bool.eq_iff_iff]
  simp
theorem dec_byt {i j : Array UInt8} : decide (V.byt i = V.byt j) = (i.toList == j.toList) := by
  rw [Bool.eq_iff_iff]
  cases i
  cases j
  simp
section
variable {X : Cx} {a b c : Expr} {ta tb tc : TE} {pos : Pos}
theorem fin_bl {pins : List (Addr × Obj)} {σ : St} {H : Hp} {s : Shared} {Q : VK} {k k' : Bool} (I : Inv X pins σ H s) (q : Q (.bl k) H) (e : k = k') : EP X pins σ Q (.bool k') s := by
  subst e
  exact ⟨.bl k, H, I, rfl, q⟩
theorem op_eq : OpR X (compareOp .Eq) rEq := by
  intro pins s σ H x y v u Q I rx ry h
  obtain ⟨hs, q⟩ := h
  cases x with
  | non =>
    cases rx
    cases y with
    | non => cases ry; exact PySem.EqNone.eq_none_none (fin_bl I q (by simp))
    | bl j => cases ry; exact PySem.EqNone.eq_none_bool (fin_bl I q (by simp))
    | int j => obtain ⟨t', rfl⟩ := ry; exact PySem.EqNone.eq_none_int (fin_bl I q (by simp))
    | str j => obtain ⟨t', rfl⟩ := ry; exact PySem.EqNone.eq_none_str (fin_bl I q (by simp))
    | _ => exact absurd (show false = true from hs) Bool.false_ne_true
  | bl i =>
    cases rx
    cases y with
    | non => cases ry; exact PySem.EqNone.eq_bool_none (fin_bl I q (by simp))
    | bl j => cases ry; exact eq_bool (fin_bl I q dec_bl)
    | str j => obtain ⟨t', rfl⟩ := ry; exact PySem.EqMixed.eq_bool_str (fin_bl I q (by simp))
    | _ => exact absurd (show false = true from hs) Bool.false_ne_true
  | int i =>
    obtain ⟨t, rfl⟩ := rx
    cases y with
    | non => cases ry; exact PySem.EqNone.eq_int_none (fin_bl I q (by simp))
    | int j => obtain ⟨t', rfl⟩ := ry; exact eq_int (fin_bl I q dec_int)
    | str j => obtain ⟨t', rfl⟩ := ry; exact PySem.EqMixed.eq_int_str (fin_bl I q (by simp))
    | _ => exact absurd (show false = true from hs) Bool.false_ne_true
  | str i =>
    obtain ⟨t, rfl⟩ := rx
    cases y with
    | non => cases ry; exact PySem.EqNone.eq_str_none (fin_bl I q (by simp))
    | bl j => cases ry; exact PySem.EqMixed.eq_str_bool (fin_bl I q (by simp))
    | int j => obtain ⟨t', rfl⟩ := ry; exact PySem.EqMixed.eq_str_int (fin_bl I q (by simp))
    | str j => obtain ⟨t', rfl⟩ := ry; exact eq_str (fin_bl I q dec_str)
    | _ => exact absurd (show false = true from hs) Bool.false_ne_true
  | byt i =>
    obtain ⟨t, rfl⟩ := rx
    cases y with
    | byt j => obtain ⟨t', rfl⟩ := ry; exact PySem.W.eq_bytes (fin_bl I q dec_byt)
    | _ => exact absurd (show false = true from hs) Bool.false_ne_true
  | _ => cases y <;> exact absurd (show false = true from hs) Bool.false_ne_true
theorem op_ne : OpR X (compareOp .NotEq) rNe := by
  intro pins s σ H x y v u Q I rx ry h
  obtain ⟨hs, q⟩ := h
  cases x with
  | non =>
    cases rx
    cases y with
    | non => cases ry; exact PySem.EqNone.ne_none_none (fin_bl I q (by simp))
    | bl j => cases ry; exact PySem.EqNone.ne_none_bool (fin_bl I q (by simp))
    | int j => obtain ⟨t', rfl⟩ := ry; exact PySem.EqNone.ne_none_int (fin_bl I q (by simp))
    | str j => obtain ⟨t', rfl⟩ := ry; exact PySem.EqNone.ne_none_str (fin_bl I q (by simp))
    | _ => exact absurd (show false = true from hs) Bool.false_ne_true
  | bl i =>
    cases rx
    cases y with
    | non => cases ry; exact PySem.EqNone.ne_bool_none (fin_bl I q (by simp))
    | bl j => cases ry; exact ne_bool (fin_bl I q (congrArg not dec_bl))
    | str j => obtain ⟨t', rfl⟩ := ry; exact PySem.EqMixed.ne_bool_str (fin_bl I q (by simp))
    | _ => exact absurd (show false = true from hs) Bool.false_ne_true
  | int i =>
    obtain ⟨t, rfl⟩ := rx
    cases y with
    | non => cases ry; exact PySem.EqNone.ne_int_none (fin_bl I q (by simp))
    | int j => obtain ⟨t', rfl⟩ := ry; exact ne_int (fin_bl I q (congrArg not dec_int))
    | str j => obtain ⟨t', rfl⟩ := ry; exact PySem.EqMixed.ne_int_str (fin_bl I q (by simp))
    | _ => exact absurd (show false = true from hs) Bool.false_ne_true
  | str i =>
    obtain ⟨t, rfl⟩ := rx
    cases y with
    | non => cases ry; exact PySem.EqNone.ne_str_none (fin_bl I q (by simp))
    | bl j => cases ry; exact PySem.EqMixed.ne_str_bool (fin_bl I q (by simp))
    | int j => obtain ⟨t', rfl⟩ := ry; exact PySem.EqMixed.ne_str_int (fin_bl I q (by simp))
    | str j => obtain ⟨t', rfl⟩ := ry; exact ne_str (fin_bl I q (congrArg not dec_str))
    | _ => exact absurd (show false = true from hs) Bool.false_ne_true
  | byt i =>
    obtain ⟨t, rfl⟩ := rx
    cases y with
    | byt j => obtain ⟨t', rfl⟩ := ry; exact PySem.W.ne_bytes (fin_bl I q (congrArg not dec_byt))
    | _ => exact absurd (show false = true from hs) Bool.false_ne_true
  | _ => cases y <;> exact absurd (show false = true from hs) Bool.false_ne_true
theorem op_lt : OpR X (compareOp .Lt) (rI0 fun i j => .bl (decide (i < j))) := opB0 fun _ _ _ _ _ _ _ q => lt_int q
theorem op_le : OpR X (compareOp .LtE) (rI0 fun i j => .bl (decide (i ≤ j))) := opB0 fun _ _ _ _ _ _ _ q => le_int q
theorem op_gt : OpR X (compareOp .Gt) (rI0 fun i j => .bl (decide (j < i))) := opB0 fun _ _ _ _ _ _ _ q => gt_int q
theorem op_ge : OpR X (compareOp .GtE) (rI0 fun i j => .bl (decide (j ≤ i))) := opB0 fun _ _ _ _ _ _ _ q => ge_int q
theorem OpR.or {f : Value → Value → Sem Value} {r r' : R2} (h : OpR X f r) (h' : OpR X f r') : OpR X f (fun x y H Q => r x y H Q ∨ r' x y H Q) := by
  intro pins s σ H x y v u Q I rx ry q
  rcases q with q | q
  · exact h pins s σ H x y v u Q I rx ry q
  · exact h' pins s σ H x y v u Q I rx ry q
theorem nomark (b : Expr) {op : CmpOp} (h : op ≠ .In := by decide) (h2 : op ≠ .NotIn := by decide) : behindInMarks op b = false := by
  have e1 : (op == CmpOp.In) = false := by cases op <;> first | rfl | exact absurd rfl h
  have e2 : (op == CmpOp.NotIn) = false := by cases op <;> first | rfl | exact absurd rfl h2
  cases b <;> simp [behindInMarks, e1, e2]
theorem pe_cmpR {op : CmpOp} {r : R2} (ho : OpR X (compareOp op) r) (ha : PE X a ta) (hb : PE X b tb) (hm : behindInMarks op b = false) : PE X (.Compare a [op] [b] pos) (tOp r ta tb) := by
  intro pins s σ H Q I h
  exact wpAny_Compare1 (binT ha hb I h fun v u s2 x y H2 I2 rx ry q => ho pins s2 σ H2 x y v u Q I2 rx ry q) hm
def tTest (t : TE) : TT := fun σ H Q => t σ H fun x H' => ∃ k, x = .bl k ∧ Q k H'
theorem pt_cmpR {op : CmpOp} {r : R2} (ho : OpR X (compareOp op) r) (ha : PE X a ta) (hb : PE X b tb) (hm : behindInMarks op b = false) : PT X (.Compare a [op] [b] pos) (tTest (tOp r ta tb)) := by
  intro pins s σ H Q I h
  refine wpAny_isTrue_Compare1 (thn (ha pins s σ H _ I h) fun v s1 ⟨x, H1, I1, r1, q1⟩ => thn (hb pins s1 σ H1 _ I1 q1) fun u s2 ⟨y, H2, I2, r2, q2⟩ =>
    thn (ho pins s2 σ H2 x y v u _ I2 r1 r2 q2) fun c s3 ⟨z, H3, I3, r3, k, e, q3⟩ => ?_) hm
  subst e
  cases r3
  exact wpAny_truthy_bool ⟨H3, I3, q3⟩
def tChain (r r' : R2) (ta tb tc : TE) : TE := fun σ H Q => ta σ H fun x H1 => tb σ H1 fun y H2 => r x y H2 fun z H3 => ∃ k, z = .bl k ∧
  (if k = true then tc σ H3 fun w' H4 => r' y w' H4 Q else Q (.bl false) H3)
theorem pt_chain {op op' : CmpOp} {r r' : R2} (ho : OpR X (compareOp op) r) (ho' : OpR X (compareOp op') r') (ha : PE X a ta) (hb : PE X b tb) (hc : PE X c tc)
    (hm : lastMarks [op, op'] [b, c] = false := by with_unfolding_all rfl) : PT X (.Compare a [op, op'] [b, c] pos) (tTest (tChain r r' ta tb tc)) := by
  intro pins s σ H Q I h
  refine isTrue_chain (thn (ha pins s σ H _ I h) fun v s1 ⟨x, H1, I1, r1, q1⟩ => test_link (thn (hb pins s1 σ H1 _ I1 q1) fun u s2 ⟨y, H2, I2, r2, q2⟩ =>
    thn (ho pins s2 σ H2 x y v u _ I2 r1 r2 q2) fun d s3 ⟨z, H3, I3, r3, k, e, q3⟩ => ?_)) hm
  subst e
  cases r3
  refine wpAny_truthy_bool ?_
  cases k with
  | false =>
    obtain ⟨k', e', q'⟩ := q3
    cases e'
    exact ite_ff ⟨H3, I3, q'⟩
  | true =>
    refine ite_tt (test_last (thn (hc pins s3 σ H3 _ I3 q3) fun w' s4 ⟨z', H4, I4, r4, q4⟩ => thn (ho' pins s4 σ H4 y z' u w' _ I4 r2 r4 q4) fun d' s5 ⟨z2, H5, I5, r5, k2, e2, q5⟩ => ?_))
    subst e2
    cases r5
    exact wpAny_truthy_bool ⟨H5, I5, q5⟩
theorem line63 : (sizeLine : Nat) < 2 ^ 63 := by rw [sizeLine_eq]; decide
theorem vals1 {x : V} {us : List Value} (r : Vals [x] us) : ∃ u, us = [u] ∧ RelV x u := by
  cases r with
  | cons r1 r2 => cases r2; exact ⟨_, rfl, r1⟩
theorem vals2 {x y : V} {us : List Value} (r : Vals [x, y] us) : ∃ u w', us = [u, w'] ∧ RelV x u ∧ RelV y w' := by
  cases r with
  | cons r1 r2 =>
    cases r2 with
    | cons r3 r4 => cases r4; exact ⟨_, _, rfl, r1, r3⟩
theorem call_abs : CallR X (.builtin "abs") (fun xs H Q => ∃ i, xs = [.int i] ∧ Q (.int (if i < 0 then -i else i)) H) := by
  intro pins s σ H xs us Q I r h
  obtain ⟨i, rfl, q⟩ := h
  obtain ⟨u, rfl, t, rfl⟩ := vals1 r
  exact call_abs_int fun u tk => ⟨.int (if i < 0 then -i else i), H, I.tok _, ⟨_, rfl⟩, q⟩
theorem call_max2 (hc : X.calm = true) : CallR X (.builtin "max") (fun xs H Q => ∃ i j, xs = [.int i, .int j] ∧ Q (.int (if j > i then j else i)) H) := by
  intro pins s σ H xs us Q I r h
  obtain ⟨i, j, rfl, q⟩ := h
  obtain ⟨u, w', rfl, ⟨t, rfl⟩, ⟨t', rfl⟩⟩ := vals2 r
  refine max_two_ints (I.ok.hd hc) fun h' tk k => ⟨_, H, I.kept k, ?_, q⟩
  by_cases hj : j > i
  · rw [if_pos hj, if_pos hj]; exact ⟨_, rfl⟩
  · rw [if_neg hj, if_neg hj]; exact ⟨_, rfl⟩
end
end L2
namespace L2
open PySem PySem.Spec PyProof.Rows
structure ObjM (h : Heap) (x dx C : Addr) (mA : Str → Option Value) : Prop where
  obj : h.get? x = some (PySem.W.instObj C dx)
  ns : h.Ns1 dx mA
  ne : dx ≠ x
theorem lookIn_ns {h : Heap} {dx : Addr} {mA : Str → Option Value} (n : h.Ns1 dx mA) : ∃ od, h.get? dx = some od ∧ ∀ name, PySem.W.lookIn name od = some (mA name) := by
  obtain ⟨o, es, ep, ho, hd, hk, _, hm⟩ := n
  refine ⟨o, ho, fun name => ?_⟩
  have e := hm name
  unfold nsFind findBy at e
  rw [← Array.find?_toList] at e
  unfold PySem.W.lookIn
  rw [hd]
  dsimp only
  split
  · rename_i y q
    rw [q] at e
    exact congrArg some e
  · rename_i q
    rw [q] at e
    have a : es.toList.any (·.refKey) = false := by
      rw [List.any_eq_false]
      intro y hy
      obtain ⟨z, t, hkey⟩ := hk y (Array.mem_toList_iff.mp hy)
      simp [DictEntry.refKey, hkey]
    have a' : ¬ es.toList.any (·.refKey) = true := by rw [a]; exact Bool.false_ne_true
    rw [if_neg a']
    exact congrArg some e
theorem ObjM.look {h : Heap} {x dx C : Addr} {mA : Str → Option Value} (I : ObjM h x dx C mA) : ∃ od, PySem.W.InstAt h x (PySem.W.instObj C dx) C (some od) ∧ ∀ name, PySem.W.lookIn name od = some (mA name) :=
  let ⟨od, ho, hl⟩ := lookIn_ns I.ns
  ⟨od, ⟨I.obj, rfl, rfl, ho⟩, hl⟩
section
variable {prog : Program} {w : World} {A : Around} {E : Value → Shared → Prop} {s : Shared} {K : PySem.W.Frag} {x dx C f : Addr} {mA : Str → Option Value} {name : Str} {v : Value}
end
section
variable {P : Program} {w : World} {H H' : Hp} {h h' : Heap} {a C dx : Addr} {fs fs' : List (Str × V)}
theorem ins_get (hok : HOk P w H h) (e : H a = some (.ins C dx fs)) : ∃ mA, ObjM h a dx C mA ∧ (∀ f, RelO (fs.lookup f) (mA f)) ∧ PySem.Within mA (fs.map (·.1)) ∧ fs.length ≤ 1000 ∧ H dx = some (.own a) := by
  obtain ⟨d, z, ne, ob, mA, n, r, q⟩ := (show ObjOk P w H h a (.ins C dx fs) from hok a _ e)
  exact ⟨mA, ⟨ob, n, ne⟩, r, q, z, d⟩
end
structure Cls (K : PySem.W.Frag) (C : Addr) : Prop where
  pg : PySem.W.plainGet K C Str.empty = true
  hd : PySem.W.hasDictIn K C = true
  po : PySem.W.plainOver K C = true
  sa : PySem.W.findIn K (.ref C) "__setattr__" = some (some (.builtin "object.__setattr__"))
theorem Cls.get {K : PySem.W.Frag} {C : Addr} (c : Cls K C) (f : Str) : PySem.W.plainGet K C f = true := c.pg
section
variable {X : Cx} {pins : List (Addr × Obj)} {σ : St} {H : Hp} {s : Shared} {a C dx : Addr} {fs : List (Str × V)} {f : Str} {v : V} {A : Around} {E : Value → Shared → Prop}
theorem Inv.made (I : Inv X pins σ H s) : Inv X pins σ (upd (upd H s.heap.objs.size (.own (s.heap.objs.size + 1))) (s.heap.objs.size + 1) (.ins C s.heap.objs.size []))
    { s with heap := (s.heap.push PySem.W.emptyDict).push (PySem.W.instObj C s.heap.objs.size) } := by
  have e1 : (s.heap.push PySem.W.emptyDict).get? s.heap.objs.size = some PySem.W.emptyDict := Heap.get?_push_size s.heap rfl
  have e2 : ((s.heap.push PySem.W.emptyDict).push (PySem.W.instObj C s.heap.objs.size)).get? (s.heap.objs.size + 1) = some (PySem.W.instObj C s.heap.objs.size) := by
    have := Heap.get?_push_size (s.heap.push PySem.W.emptyDict) (o := PySem.W.instObj C s.heap.objs.size) rfl
    rwa [Heap.size_push] at this
  have e3 : (s.heap.push PySem.W.emptyDict).Ns s.heap.objs.size (fun _ => none) := ⟨PySem.W.emptyDict, #[], _, e1, rfl, (fun e he => absurd he (by simp)), fun _ => rfl⟩
  have I1 := I.laid (a := s.heap.objs.size) (o := .own (s.heap.objs.size + 1)) (h' := s.heap.push PySem.W.emptyDict) (t' := s.toks) (fun b u q => Heap.get?_push_of_some _ q) (Nat.le_refl _) ⟨_, e1⟩
  refine I1.laid (a := s.heap.objs.size + 1) (o := .ins C s.heap.objs.size []) (t' := s.toks) (fun b u q => Heap.get?_push_of_some _ q) (Nat.le_of_eq (Heap.size_push _ _)) ?_
  have ne : s.heap.objs.size ≠ s.heap.objs.size + 1 := Nat.ne_of_lt (Nat.lt_succ_self _)
  refine ⟨by rw [upd_ne ne, upd_same], Nat.zero_le _, ne, e2, fun _ => none, (Heap.Ns1.of_empty e3).at fun o q => Heap.get?_push_of_some _ q, fun _ => True.intro, fun y hy => absurd rfl hy⟩
end
section
variable {X : Cx} {o e value : Expr} {f : Str} {pos pos' tpos : Pos} {ta tv : TE}
end
section
variable {X : Cx} {pins : List (Addr × Obj)} {σ : St} {H : Hp} {s : Shared} {A : Around} {E : Value → Shared → Prop} {Q : Value → Shared → Prop} {c : Value} {b : Bool}
inductive TyOf (K : PySem.W.Frag) (H : Hp) : V → Value → Prop where
  | non : TyOf K H .non (.type "NoneType")
  | bl (x : Bool) : TyOf K H (.bl x) (.type "bool")
  | int (i : Int) : TyOf K H (.int i) (.type "int")
  | str (x : Str) : TyOf K H (.str x) (.type "str")
  | flt (x : UInt64) : TyOf K H (.flt x) (.type "float")
  | lst {a : Addr} {xs : List V} (e : H a = some (.lst xs)) : TyOf K H (.ref a) (.type "list")
  | frz {a : Addr} {o : Obj} {xs : List V} (e : H a = some (.frz o (.lst xs))) : TyOf K H (.ref a) (.type "list")
  | tup {a : Addr} {xs : List V} (e : H a = some (.tup xs)) : TyOf K H (.ref a) (.type "tuple")
  | dK {a : Addr} {kvs : List (Key × V)} (e : H a = some (.dK kvs)) : TyOf K H (.ref a) (.type "dict")
  | dT {a : Addr} {kvs : List (List Key × V)} (e : H a = some (.dT kvs)) : TyOf K H (.ref a) (.type "dict")
  | ins {a C dx : Addr} {fs : List (Str × V)} (e : H a = some (.ins C dx fs)) (cl : Cls K C) (ha : PySem.W.findIn K (.ref C) "__class__" = some (some (.builtin "object.__class__")))
      (hn : PySem.W.specialIn K (.builtin "object.__class__") "__get__" = some (some (.builtin "getset_descriptor.__get__"))) (htk : PySem.W.takesIn K (.builtin "object.__class__") = some true)
      (hm : PySem.W.mroIn K C (.type "object") = some true) : TyOf K H (.ref a) (.ref C)
theorem isinst_ok {x : V} {u t : Value} (I : Inv X pins σ H s) (rx : RelV x u) (ty : TyOf X.K H x t) (e : PySem.W.kitOne X.K t c = some b) (h : ∀ tk, Q (.bool b) { s with toks := tk }) :
    wpAny (model X.prog X.w) A (call (.builtin "isinstance") [u, c]) Q E s := by
  cases ty with
  | non => cases (show u = Value.none from rx); exact PySem.W.kia_one PySem.W.kitx_none I.kIn True.intro e (fun z => nomatch z) h
  | bl y => cases (show u = Value.bool y from rx); exact PySem.W.kia_one PySem.W.kitx_bool I.kIn True.intro e (fun z => nomatch z) h
  | int i => obtain ⟨t, q⟩ := (show ∃ t, u = Value.int i t from rx); cases q; exact PySem.W.kia_one PySem.W.kitx_int I.kIn True.intro e (fun z => nomatch z) h
  | str y => obtain ⟨t, q⟩ := (show ∃ t, u = Value.str y t from rx); cases q; exact PySem.W.kia_one PySem.W.kitx_str I.kIn True.intro e (fun z => nomatch z) h
  | flt y => obtain ⟨t, q⟩ := (show ∃ t, u = Value.float y t from rx); cases q; exact PySem.W.kia_one PySem.W.kitx_float I.kIn True.intro e (fun z => nomatch z) h
  | @lst a xs ea =>
    cases (show u = Value.ref a from rx)
    obtain ⟨_, _, n, _, h1⟩ := (show ObjOk X.prog X.w H s.heap a (.lst xs) from I.hok a _ ea)
    exact PySem.W.kia_one PySem.W.kitx_list I.kIn ⟨_, h1, rfl⟩ e (fun z => nomatch z) h
  | @frz a ob xs ea =>
    cases (show u = Value.ref a from rx)
    obtain ⟨_, _, _, n, _, h1⟩ := (show ObjOk X.prog X.w H s.heap a (.frz ob (.lst xs)) from I.hok a _ ea)
    exact PySem.W.kia_one PySem.W.kitx_list I.kIn ⟨_, h1, rfl⟩ e (fun z => nomatch z) h
  | @tup a xs ea =>
    cases (show u = Value.ref a from rx)
    obtain ⟨_, _, _, p⟩ := (show ObjOk X.prog X.w H s.heap a (.tup xs) from I.hok a _ ea)
    obtain ⟨o, h1, h2, _⟩ := p
    exact PySem.W.kia_one PySem.W.kitx_tuple I.kIn ⟨o, h1, h2⟩ e (fun z => nomatch z) h
  | @dK a kvs ea =>
    cases (show u = Value.ref a from rx)
    obtain ⟨_, _, vs, _, p⟩ := (show ObjOk X.prog X.w H s.heap a (.dK kvs) from I.hok a _ ea)
    obtain ⟨o, es, ep, h1, h2, _⟩ := p
    exact PySem.W.kia_one PySem.W.kitx_dict I.kIn ⟨o, h1, h2.1⟩ e (fun z => nomatch z) h
  | @dT a kvs ea =>
    cases (show u = Value.ref a from rx)
    obtain ⟨_, _, xs, _, o, es, ep, h1, h2, _⟩ := (show ObjOk X.prog X.w H s.heap a (.dT kvs) from I.hok a _ ea)
    exact PySem.W.kia_one PySem.W.kitx_dict I.kIn ⟨o, h1, h2.1⟩ e (fun z => nomatch z) h
  | @ins a C dx fs ea cl ha hn htk hm =>
    cases (show u = Value.ref a from rx)
    obtain ⟨mA, O, _⟩ := ins_get I.hok ea
    obtain ⟨od, J, _⟩ := O.look
    exact PySem.W.kia_one (PySem.W.kitx_own (cl.get _) cl.hd ha hn htk hm) I.kIn J e (fun z => nomatch z) h
end
end L2
namespace L2
open PySem PySem.Spec PyProof.Rows
structure Room (k : Nat) (A : Around) : Prop where
  hd : A.handled = none
  dp : A.depth + 3 * k + 5 < recursionLimit
  un : A.units + 16 * k + 200 < cLine
theorem Room.mono {j k : Nat} {A : Around} (r : Room k A) (h : j ≤ k) : Room j A := ⟨r.hd, by have := r.dp; omega, by have := r.un; omega⟩
theorem Room.deeper {k : Nat} {A : Around} (r : Room (k + 1) A) (env : Env) : Room k (A.deeper env) :=
  ⟨r.hd, by have := r.dp; show A.depth + 1 + 3 * k + 5 < _; omega, by have := r.un; show A.units + 3 + 16 * k + 200 < _; omega⟩
theorem Room.in1 {k : Nat} {A : Around} (r : Room (k + 1) A) : Room k A.in1 :=
  ⟨r.hd, by have := r.dp; show A.depth + 3 * k + 5 < _; omega, by have := r.un; show A.units + 1 + 16 * k + 200 < _; omega⟩
theorem Room.depth {k : Nat} {A : Around} (r : Room k A) : A.depth < recursionLimit := by have := r.dp; omega
theorem Room.units {k : Nat} {A : Around} (r : Room k A) : A.units + 64 < cLine := by have := r.un; omega
def tNil : TA := fun _ H Q => Q [] H
def tCons (ta : TE) (tr : TA) : TA := fun σ H Q => ta σ H fun x H1 => tr σ H1 fun xs H2 => Q (x :: xs) H2
section
variable {X : Cx} {e : Expr} {es : List Expr} {te : TE} {t : TA} {pos : Pos}
theorem pa_nil : PA X [] tNil := fun _ _ _ _ H Q I h => Calls.spliced_nil ⟨[], H, I, .nil, h⟩
theorem pa_cons (ha : PE X e te) (hr : PA X es t) (hs : starEach (e :: es) X.env = (false, eval e X.env) :: starEach es X.env := by rfl) : PA X (e :: es) (tCons te t) := by
  intro pos pins s σ H Q I h
  rw [hs]
  show wpAny _ _ (spliced ((false, eval e X.env) :: backTo pos (starEach es X.env))) _ _ s
  refine Calls.spliced_cons (thn (ha pins s σ H _ I h) fun u s1 ⟨x, H1, I1, r1, q1⟩ => ?_)
  exact thn (hr pos pins s1 σ H1 _ I1 q1) fun us s2 ⟨xs, H2, I2, r2, q2⟩ => ⟨x :: xs, H2, I2, .cons r1 r2, q2⟩
def tTup (t : TA) : TE := fun σ H Q => t σ H fun xs H1 => xs.length ≤ sizeLine ∧ ∀ p, H1 p = none → Q (.ref p) (upd H1 p (.tup xs))
def tLst (t : TA) : TE := fun σ H Q => t σ H fun xs H1 => xs.length ≤ sizeLine ∧ ∀ p, H1 p = none → Q (.ref p) (upd H1 p (.lst xs))
theorem pe_tup {x1} (h : PA X es t) : PE X (.Tuple es x1 pos) (tTup t) := by
  intro pins s σ H Q I hq
  refine wpAny_Tuple_spliced (thn (h pos pins s σ H _ I hq) fun us s1 ⟨xs, H1, I1, r, z, q⟩ => ⟨by rw [← r.length]; exact z, ?_⟩)
  have hf : H1 s1.heap.objs.size = none := I1.hok.fresh (Nat.le_refl _)
  refine ⟨.ref s1.heap.objs.size, upd H1 s1.heap.objs.size (.tup xs), I1.laid (t' := s1.toks) (fun b u e => Heap.get?_push_of_some _ e) (Nat.le_refl _) ?_, rfl, q _ hf⟩
  exact ⟨z, us, r, ⟨_, Heap.get?_push_size _ rfl, rfl, _, rfl⟩⟩
theorem pe_lst (h : PA X es t) : PE X (.List es pos) (tLst t) := by
  intro pins s σ H Q I hq
  refine wpAny_List_spliced (thn (h pos pins s σ H _ I hq) fun us s1 ⟨xs, H1, I1, r, z, q⟩ => ⟨by rw [← r.length]; exact z, ?_⟩)
  have hf : H1 s1.heap.objs.size = none := I1.hok.fresh (Nat.le_refl _)
  refine ⟨.ref s1.heap.objs.size, upd H1 s1.heap.objs.size (.lst xs), I1.laid (t' := s1.toks) (fun b u e => Heap.get?_push_of_some _ e) (Nat.le_refl _) ?_, rfl, q _ hf⟩
  exact ⟨z, us, 0, r, Heap.get?_push_size _ rfl⟩
end
abbrev Sp := List V → Hp → VK → XK → Prop
abbrev CXT := List Env → Hp → Shared → XK → Value → Shared → Prop
structure Env0 (P : Program) (w : World) (K : PySem.W.Frag) (mg : Str → Option Value) (base : Heap) (A : Around) (outer : List Env) (s : Shared) (H : Hp) : Prop where
  frames : A.frames = some outer
  mod : Mod K mg base
  bs : ∀ b o, base.get? b = some o → s.heap.get? b = some o ∧ H b = none
  bsz : base.objs.size ≤ s.heap.objs.size
  funs : s.heap.FunFrames base outer
  frf : ∀ b ∈ frs outer, H b = none
  hok : HOk P w H s.heap
  bare : AllBare s.gens
def CE (outer : List Env) (P : Program) (w : World) (H : Hp) (s : Shared) (Q : VK) (u : Value) (s' : Shared) : Prop :=
  ∃ v H', s'.os = s.os ∧ AllBare s'.gens ∧ Un (frs outer) [] H H' s.heap s'.heap ∧ HOk P w H' s'.heap ∧ RelV v u ∧ Q v H'
def CR (CX : CXT) (outer : List Env) (P : Program) (w : World) (H : Hp) (s : Shared) (Q : VK) (E : XK) (r : Result) (s' : Shared) : Prop :=
  match r with
  | .ok (.ret u) => CE outer P w H s Q u s'
  | .ok _ => False
  | .error e => CX outer H s E e s'
structure FnOk (P : Program) (w : World) (K : PySem.W.Frag) (mg : Str → Option Value) (base : Heap) (CX : CXT) (k : Nat) (f : Addr) (fd : FuncData) (ps : List Str) (sp : Sp) : Prop where
  len : ∀ vs H Q E, sp vs H Q E → vs.length = ps.length
  run : ∀ (A : Around) (outer : List Env) (s : Shared) (H : Hp) (args : Args) (us : List Value) (vs : List V) (Q : VK) (E : XK), Room k A → Env0 P w K mg base A outer s H → BindsTo s fd args (ps.zip us) → Vals vs us → sp vs H Q E →
    codeAny (model P w) A (.call (.ref f) args) (CR CX outer P w H s Q E) s
theorem FnOk.mono {P : Program} {w : World} {K : PySem.W.Frag} {mg : Str → Option Value} {base : Heap} {CX : CXT} {j k : Nat} {f : Addr} {fd : FuncData} {ps : List Str} {sp : Sp} (F : FnOk P w K mg base CX j f fd ps sp) (h : j ≤ k) :
    FnOk P w K mg base CX k f fd ps sp := ⟨F.len, fun A outer s H args us vs Q E hr => F.run A outer s H args us vs Q E (hr.mono h)⟩
theorem Env0.in1 {P : Program} {w : World} {K : PySem.W.Frag} {mg : Str → Option Value} {base : Heap} {A : Around} {outer : List Env} {s : Shared} {H : Hp} (e : Env0 P w K mg base A outer s H) :
    Env0 P w K mg base A.in1 outer s H := ⟨e.frames, e.mod, e.bs, e.bsz, e.funs, e.frf, e.hok, e.bare⟩
section
variable {X : Cx} {pins : List (Addr × Obj)} {σ : St} {H : Hp} {s s' : Shared}
theorem Inv.env0 (I : Inv X pins σ H s) : Env0 X.prog X.w X.K X.mg X.base X.A X.stack s H :=
  ⟨I.ok.frames, I.ok.mod, I.bs, Nat.le_trans I.ok.bsz I.sz, I.stack, I.stkFree, I.hok, I.bare⟩
theorem Inv.after {Q : VK} {u : Value} (I : Inv X pins σ H s) (h : CE X.stack X.prog X.w H s Q u s') : EP X pins σ Q u s' := by
  obtain ⟨v, H', os, bare, un, hok, r, q⟩ := h
  obtain ⟨hh, g, d, t, os'⟩ := s'
  obtain rfl : os' = s.os := os
  exact ⟨v, H', I.call (h' := hh) (g' := g) (d' := d) (t' := t) (ch := []) un hok bare (fun b z => absurd z (by simp)), r, q⟩
end
def tCall (sp : Sp) (dvs : List V) (E : XK) (t : TA) : TE := fun σ H Q => t σ H fun vs H1 => sp (vs ++ dvs) H1 Q E
def Binds (K : PySem.W.Frag) (fd : FuncData) (ps : List Str) (ds : List Value) : Prop :=
  ∀ (s : Shared) (us : List Value), K.In s.heap → (us ++ ds).length = ps.length → BindsTo s fd ⟨us, []⟩ (ps.zip (us ++ ds))
theorem Binds.all {K : PySem.W.Frag} {fd : FuncData} {ps : List Str} (h : ∀ us : List Value, us.length = ps.length → bindArgs fd ⟨us, []⟩ = pure (ps.zip us)) : Binds K fd ps [] := fun s us _ hl => by
  rw [List.append_nil] at hl ⊢
  exact .of_eq (h us hl)
def Passes (CX : CXT) (X : Cx) (E : XK) : Prop := ∀ (pins : List (Addr × Obj)) (σ : St) (H : Hp) (s : Shared) (e : Value) (s' : Shared), Inv X pins σ H s → CX X.stack H s E e s' → X.xe e s'
section
variable {X : Cx} {CX : CXT} {k : Nat} {f C : Addr} {fd : FuncData} {ps : List Str} {sp : Sp} {dvs : List V} {ds : List Value} {E : XK} {x m : Str} {p pos apos : Pos} {e o : Expr} {es : List Expr} {ta : TE} {t : TA}
theorem run_fn {pins : List (Addr × Obj)} {σ : St} {H : Hp} {s : Shared} {Q : VK} {us : List Value} {vs : List V} (F : FnOk X.prog X.w X.K X.mg X.base CX k f fd ps sp) (hr : Room k X.A) (hb : Binds X.K fd ps ds) (hd : Vals dvs ds) (hx : Passes CX X E)
    (I : Inv X pins σ H s) (r : Vals vs us) (h : sp (vs ++ dvs) H Q E) : wpAny (model X.prog X.w) X.A (call (.ref f) us) (EP X pins σ Q) X.xe s := by
  have r2 : Vals (vs ++ dvs) (us ++ ds) := r.append hd
  have hl : (us ++ ds).length = ps.length := by rw [← r2.length]; exact F.len _ _ _ _ h
  refine wpAny_call (codeAny_mono (F.run X.A X.stack s H ⟨us, []⟩ (us ++ ds) (vs ++ dvs) Q E hr I.env0 (hb s us I.kIn hl) r2 h) fun r s' hq => ?_)
  cases r with
  | error e => exact hx pins σ H s e s' I hq
  | ok fl =>
    cases fl with
    | ret u => exact I.after hq
    | next => exact False.elim hq
    | brk => exact False.elim hq
    | cont => exact False.elim hq
theorem pe_call (F : FnOk X.prog X.w X.K X.mg X.base CX k f fd ps sp) (hr : Room k X.A) (hg : Gl X x) (hm : X.mg x = some (.ref f)) (hk : PySem.W.keepIn X.K (.ref f) = true) (hb : Binds X.K fd ps ds) (hd : Vals dvs ds) (hx : Passes CX X E)
    (ha : PA X (e :: es) t) (hdb : (x == ("__debug__" : Str)) = false := by decide) (he : starEach (e :: es) X.env = (false, eval e X.env) :: starEach es X.env := by rfl) (hpl : (backTo pos (starEach es X.env)).any (·.1) = false := by rfl) :
    PE X (.Call (.Name x p) (e :: es) [] pos) (tCall sp dvs E t) := by
  intro pins s σ H Q I h
  refine wpAny_Call_Name_kw (ld_glob I hg hm ?_ hdb)
  refine PySem.W.callWith_K (h₀ := X.base) I.ok.mod.kin hk (thn (ha pos pins s σ H _ I h) fun us s1 ⟨vs, H1, I1, r, q⟩ => ⟨I1.kIn, ?_⟩) he hpl
  exact run_fn F hr hb hd hx I1 r q
end
section
variable {X : Cx} {CX : CXT} {k : Nat} {f C : Addr} {fd : FuncData} {ps ks : List Str} {sp : Sp} {E : XK} {x m : Str} {p pos apos kpos : Pos} {e o : Expr} {es : List Expr} {kws : List Keyword} {te ta : TE} {t tk : TA} {nm : Option Str}
variable {g : List Value → List Value → List Value} {gV : List V → List V → List V}
end
structure FnScope (N P : List Str) (sc : Scope) : Prop where
  kind : sc.kind = .function
  co : sc.isCoroutine = false
  gen : sc.isGenerator = false
  nd : N.Nodup
  pre : N.take P.length = P
  par : ∀ x ∈ P, sc.names.lookup x = some .local ∨ sc.names.lookup x = some .cell
  nofree : ∀ y ∈ sc.names, y.2 ≠ .free
theorem bindL_out {kindOf : Str → Option NameKind} {x : Str} : ∀ {binds : List (Str × Value)} {m : Str → Option Value}, (∀ v, (x, v) ∉ binds) → bindL kindOf binds m x = m x
  | [], _, _ => rfl
  | (n, v) :: r, m, h => by
    unfold bindL
    rw [bindL_out fun w hw => h w (List.mem_cons_of_mem _ hw)]
    split
    · have : x ≠ n := by rintro rfl; exact h v List.mem_cons_self
      simp [this]
    · rfl
theorem bindC_out {kindOf : Str → Option NameKind} {x : Str} : ∀ {binds : List (Str × Value)} {m : Str → Option Value}, (∀ v, (x, v) ∉ binds) → bindC kindOf binds m x = m x
  | [], _, _ => rfl
  | (n, v) :: r, m, h => by
    unfold bindC
    rw [bindC_out fun w hw => h w (List.mem_cons_of_mem _ hw)]
    split
    · rfl
    · have : x ≠ n := by rintro rfl; exact h v List.mem_cons_self
      simp [this]
theorem bindL_get {kindOf : Str → Option NameKind} {x : Str} {v : Value} : ∀ {P : List Str} {vs : List Value} {i : Nat} {m : Str → Option Value}, P.Nodup → P[i]? = some x → vs[i]? = some v → kindOf x = some .local →
    bindL kindOf (P.zip vs) m x = some v
  | [], _, _, _, _, h, _, _ => by simp at h
  | _ :: _, [], _, _, _, _, h, _ => by simp at h
  | p :: P, w :: vs, 0, m, nd, h1, h2, hk => by
    simp at h1 h2; subst h1; subst h2
    show bindL kindOf ((p, w) :: P.zip vs) m p = _
    unfold bindL
    rw [bindL_out fun v hv => (List.nodup_cons.mp nd).1 (List.of_mem_zip hv).1, if_pos hk]
    simp
  | p :: P, w :: vs, i + 1, m, nd, h1, h2, hk => by
    show bindL kindOf ((p, w) :: P.zip vs) m x = _
    unfold bindL
    exact bindL_get (i := i) (List.nodup_cons.mp nd).2 (by simpa using h1) (by simpa using h2) hk
theorem bindC_get {kindOf : Str → Option NameKind} {x : Str} {v : Value} : ∀ {P : List Str} {vs : List Value} {i : Nat} {m : Str → Option Value}, P.Nodup → P[i]? = some x → vs[i]? = some v → kindOf x ≠ some .local →
    bindC kindOf (P.zip vs) m x = some v
  | [], _, _, _, _, h, _, _ => by simp at h
  | _ :: _, [], _, _, _, _, h, _ => by simp at h
  | p :: P, w :: vs, 0, m, nd, h1, h2, hk => by
    simp at h1 h2; subst h1; subst h2
    show bindC kindOf ((p, w) :: P.zip vs) m p = _
    unfold bindC
    rw [bindC_out fun v hv => (List.nodup_cons.mp nd).1 (List.of_mem_zip hv).1, if_neg hk]
    simp
  | p :: P, w :: vs, i + 1, m, nd, h1, h2, hk => by
    show bindC kindOf ((p, w) :: P.zip vs) m x = _
    unfold bindC
    exact bindC_get (i := i) (List.nodup_cons.mp nd).2 (by simpa using h1) (by simpa using h2) hk
def start (N : List Str) (vs : List V) : St := vs.map some ++ List.replicate (N.length - vs.length) none
def cxOf (CX : CXT) (P : Program) (w : World) (K : PySem.W.Frag) (mg : Str → Option Value) (base : Heap) (N : List Str) (qual : Str) (scope : Scope) (f : Addr) (cd : Value) (A : Around) (outer : List Env) (s : Shared) (H : Hp) (E : XK) : Cx where
  prog := P
  w := w
  K := K
  mg := mg
  base := base
  A := A.deeper (envOfC qual scope s.heap.objs.size f cd)
  N := N
  s₀ := s
  H₀ := H
  env := envOfC qual scope s.heap.objs.size f cd
  outer := outer
  stack := envOfC qual scope s.heap.objs.size f cd :: outer
  ex := []
  calm := true
  fn := fun _ => true
  pn := []
  xe := fun e s' => wpAny (model P w) (A.deeper (envOfC qual scope s.heap.objs.size f cd)) (leaving (envOfC qual scope s.heap.objs.size f cd) e) (fun _ s'' => CX outer H s E e s'') (fun e' s'' => CX outer H s E e' s'') s'
theorem cell_has {sc : Scope} {n : Nat} {x : Str} (h : sc.names.lookup x = some .cell) : ∃ c, (cellsFrom n sc.names []).lookup x = some c := by
  have q := PySem.W.cellsFrom_some sc.names n [] (.inl h)
  exact Option.isSome_iff_exists.mp q
theorem inv_start {CX : CXT} {P : Program} {w : World} {K : PySem.W.Frag} {mg : Str → Option Value} {base : Heap} {N ps : List Str} {qual : Str} {scope : Scope} {f : Addr} {cd : Value} {A : Around} {outer : List Env} {s s1 : Shared} {H : Hp} {E : XK} {us : List Value} {vs : List V}
    (S : FnScope N ps scope) (hd : A.handled = none) (e0 : Env0 P w K mg base A outer s H) (hl : vs.length = ps.length) (r : Vals vs us)
    (x : InCallC s s.heap.objs.size (bindL (envOfC qual scope s.heap.objs.size f cd).kindOf (ps.zip us) fun _ => none) (cellsFrom (s.heap.objs.size + 1) scope.names []) (bindC (envOfC qual scope s.heap.objs.size f cd).kindOf (ps.zip us) fun _ => none) s1) :
    Inv (cxOf CX P w K mg base N qual scope f cd A outer s H E) [] (start N vs) H s1 := by
  have hpl : ps.length ≤ N.length := by have := congrArg List.length S.pre; rw [List.length_take] at this; omega
  obtain ⟨h1, tk, rfl, hk⟩ := x.done
  have noA : ∀ b : Addr, b ∉ (cxOf CX P w K mg base N qual scope f cd A outer s H E).ex := fun b z => absurd (show b ∈ ([] : List Addr) from z) (by simp)
  refine ⟨⟨e0.mod, S.kind, rfl, rfl, Nat.le_refl _, fun y z c h1 h2 => ?_, fun y hy => ?_, fun y c _ h => ?_, fun _ => hd, Around.frames_deeper e0.frames, .inr ⟨rfl, rfl⟩, fun b z => absurd z (noA b), e0.bs, e0.bsz, fun b _ _ => noA b, fun b z => absurd z (noA b), e0.funs, e0.frf⟩,
    rfl, e0.bare, Un.kept hk, ⟨_, x.toInCall.ns, fun i y v h1 h2 h3 => ?_⟩, fun y c h => ⟨_, x.cell y c h⟩, e0.hok.fresh (Nat.le_refl _), fun y c h => ?_, fun p hp => absurd (show p ∈ ([] : List (Addr × Obj)) from hp) (by simp), e0.hok.kept hk, ?_⟩
  · exact name_of_addr x.apart (PySem.mem_of_lookup h1) (PySem.mem_of_lookup h2)
  · have hy : scope.names.lookup y = some .cell ∨ scope.names.lookup y = some .free := hy
    rcases hy with hy | hy
    · exact cell_has hy
    · exact absurd rfl (S.nofree _ (PySem.mem_of_lookup hy))
  · exact Nat.le_of_lt (x.above y c (PySem.mem_of_lookup h))
  · have hi : i < vs.length := by
      unfold start at h2
      by_cases hi : i < vs.length
      · exact hi
      · rw [List.getElem?_append_right (by simpa using hi)] at h2
        rw [List.getElem?_replicate] at h2
        split at h2 <;> cases h2
    have ha : vs[i]? = some v := by
      unfold start at h2
      rw [List.getElem?_append_left (by simpa using hi), List.getElem?_map] at h2
      cases e : vs[i]? with
      | none => rw [e] at h2; cases h2
      | some a => rw [e] at h2; cases h2; rfl
    obtain ⟨u, hu, rv⟩ := r.get ha
    have hp : ps[i]? = some y := by
      rw [← S.pre, List.getElem?_take_of_lt (by omega)]; exact h1
    have ndP : ps.Nodup := by rw [← S.pre]; exact S.nd.sublist (List.take_sublist _ _)
    refine ⟨u, rv, ?_⟩
    rcases S.par y (List.mem_of_getElem? hp) with k | k
    · exact .inl ⟨k, bindL_get ndP hp hu k⟩
    · obtain ⟨c, e⟩ := cell_has (n := s.heap.objs.size + 1) k
      refine .inr ⟨.inl k, c, e, ?_⟩
      have q := x.cell y c e
      rw [bindC_get ndP hp hu (by show scope.names.lookup y ≠ _; rw [k]; decide)] at q
      exact q
  · exact e0.hok.fresh (Nat.le_of_lt (x.above y c (PySem.mem_of_lookup h)))
  · unfold start
    show _ = N.length
    rw [List.length_append, List.length_map, List.length_replicate]
    omega
theorem fn_of {CX : CXT} {P : Program} {w : World} {K : PySem.W.Frag} {mg : Str → Option Value} {base : Heap} {k : Nat} {f : Addr} {name qual : Str} {params : Arguments} {body : List Stmt} {scope : Scope} {dV kV doc pm cdv ct oc : Value} {an od : Option Addr}
    {osl : Array (Option Value)} {N ps : List Str} {sp : Sp} (lk : K.lookup f = some ⟨oc, od, .func (PySem.W.fnOf name qual params body scope dV kV doc pm an cdv ct), osl⟩) (hcd : PySem.W.codeIn K cdv qual = true) (S : FnScope N ps scope)
    (len : ∀ vs H Q E, sp vs H Q E → vs.length = ps.length)
    (hbody : ∀ (A : Around) (outer : List Env) (s : Shared) (H : Hp) (vs : List V) (Q : VK) (E : XK), Room k (A.deeper (envOfC qual scope s.heap.objs.size f cdv)) → sp vs H Q E →
      ∃ t, PSs (cxOf CX P w K mg base N qual scope f cdv A outer s H E) body t ∧ t { nx := fun _ H' => Q .non H', rt := Q } (start N vs) H) :
    FnOk P w K mg base CX (k + 1) f (PySem.W.fnOf name qual params body scope dV kV doc pm an cdv ct) ps sp := by
  refine ⟨len, fun A outer s H args us vs Q E hr e0 hb r hsp => ?_⟩
  have hl := len _ _ _ _ hsp
  have KX : K.In s.heap := e0.mod.kin.keeps fun b o e => (e0.bs b o e).1
  have lim : s.heap.NoLimit := e0.mod.nolimit.keeps fun b o e => (e0.bs b o e).1
  have hkind : ∀ y ∈ ps.zip us, scope.names.lookup y.1 = some .local ∨ (scope.names.lookup y.1 = some .cell ∧ ((cellsFrom (s.heap.objs.size + 1) scope.names []).lookup y.1).isSome = true) := fun ⟨n, v⟩ hy => by
    rcases S.par n (List.of_mem_zip hy).1 with q | q
    · exact .inl q
    · exact .inr ⟨q, PySem.W.cellsFrom_some _ _ _ (.inl q)⟩
  refine codeAny_call_function hr.depth (KX _ _ lk) rfl S.co S.gen rfl (PySem.W.codeRec_of KX hcd) (hb _ _ _ _ ?_)
  refine wpAny_newFunctionEnv_cells S.kind hkind fun env he s1 x => ?_
  subst he
  refine ⟨lim.keeps x.toInCall.keep, codeAny_func ?_⟩
  obtain ⟨t, ht, hq⟩ := hbody A outer s H vs Q E (hr.deeper _) hsp
  have I : Inv (cxOf CX P w K mg base N qual scope f cdv A outer s H E) [] (start N vs) H s1 := inv_start S hr.hd e0 hl r x
  refine wpAny_mono (ht [] s1 (start N vs) H _ I hq) (fun fl s' hs => ?_) fun e s' hs => hs
  have fin : ∀ {σ' : St} {H' : Hp} {v : V} {u : Value}, Inv (cxOf CX P w K mg base N qual scope f cdv A outer s H E) [] σ' H' s' → RelV v u → Q v H' → CE outer P w H s Q u s' :=
    fun {σ' H' v u} J rv q => ⟨v, H', J.os, J.bare, J.base, J.hok, rv, q⟩
  cases fl with
  | ret u =>
    obtain ⟨v, σ', H', J, rv, q⟩ := hs
    exact fin J rv q
  | next =>
    obtain ⟨σ', H', J, q⟩ := hs
    exact fin (v := V.non) (u := Value.none) J rfl q
  | brk =>
    obtain ⟨_, _, _, q⟩ := hs
    exact False.elim q
  | cont =>
    obtain ⟨_, _, _, q⟩ := hs
    exact False.elim q
end L2
namespace L2
open PySem PySem.Spec PyProof.Rows
section
variable {X : Cx} {x : Str} {p pos : Pos} {e : Expr} {es : List Expr} {t : TA} {id T : String} {r : List V → Hp → VK → Prop}
def tCB (r : List V → Hp → VK → Prop) (t : TA) : TE := fun σ H Q => t σ H fun vs H1 => r vs H1 Q
theorem pe_callB (hc : CallR X (.builtin id) r) (hg : Gl X x) (hm : X.mg x = none) (hv : bootBuiltins x = some (.builtin id)) (ha : PA X (e :: es) t) (hn : x ≠ "__name__" := by decide) (hdb : (x == ("__debug__" : Str)) = false := by decide)
    (he : starEach (e :: es) X.env = (false, eval e X.env) :: starEach es X.env := by rfl) (hpl : (backTo pos (starEach es X.env)).any (·.1) = false := by rfl) : PE X (.Call (.Name x p) (e :: es) [] pos) (tCB r t) := by
  intro pins s σ H Q I h
  refine wpAny_Call_Name_kw (ld_blt I hg hm hv ?_ hn hdb)
  exact PyProof.Rows.callWith_builtin1 (thn (ha pos pins s σ H _ I h) fun us s1 ⟨vs, H1, I1, r1, q1⟩ => hc pins s1 σ H1 vs us Q I1 r1 q1) he hpl
theorem pe_callTy (hc : CallR X (.type T) r) (hg : Gl X x) (hm : X.mg x = none) (hv : bootBuiltins x = some (.type T)) (ha : PA X (e :: es) t) (hn : x ≠ "__name__" := by decide) (hdb : (x == ("__debug__" : Str)) = false := by decide)
    (he : starEach (e :: es) X.env = (false, eval e X.env) :: starEach es X.env := by rfl) (hpl : (backTo pos (starEach es X.env)).any (·.1) = false := by rfl) : PE X (.Call (.Name x p) (e :: es) [] pos) (tCB r t) := by
  intro pins s σ H Q I h
  refine wpAny_Call_Name_kw (ld_blt I hg hm hv ?_ hn hdb)
  exact PyProof.Rows.callWith_type1 (thn (ha pos pins s σ H _ I h) fun us s1 ⟨vs, H1, I1, r1, q1⟩ => hc pins s1 σ H1 vs us Q I1 r1 q1) he hpl
end
end L2
namespace HT
open PySem PyProof.Rows
section
open PySem.SeqAt
open PySem.AutoSeq1 (wpAny_loadPart')
open PySem.MeetsSeq PySem.MeetsSeq2 PySem.MeetsSeq3
end
section
variable {prog : Program} {w : World} {A : Around} {E : Value → Shared → Prop} {s : Shared}
theorem cat_tup {t b : Addr} {vs ws : List Value} {Q : Value → Shared → Prop} (ht : IsTup s.heap t vs.toArray) (hb : IsTup s.heap b ws.toArray) (hv : vs ≠ [])
    (h1 : ws = [] → Q (.ref t) s) (h2 : ws ≠ [] → Q (.ref s.heap.objs.size) { s with heap := s.heap.push { cls := .type "tuple", data := .seq (vs ++ ws).toArray } })
    (hsz : vs.length + ws.length ≤ sizeLine) : wpAny (model prog w) A (binaryOp .Add (.ref t) (.ref b)) Q E s := by
  obtain ⟨⟨cls, dd, data, sl⟩, ho, hc, n, hd⟩ := id ht
  obtain ⟨⟨cls2, dd2, data2, sl2⟩, ho2, hc2, n2, hd2⟩ := id hb
  simp only at hc hd hc2 hd2
  subst hc hd hc2 hd2
  have e : vs.toArray ++ ws.toArray = (vs ++ ws).toArray := by simp
  by_cases hw : ws = []
  · exact concat_meets ⟨_, ho, rfl⟩ ⟨_, ho2, rfl⟩ noFill_tuple_add seq_tuple_add PySem.F.slot_tuple_add PySem.F.entry_tuple_add (PySem.F.args_tuple_add_2 _ _)
      (tuple_addW1 t b vs.toArray ws.toArray n n2 dd dd2 sl sl2 (by simpa using hv) (by simp [hw])) ⟨ho, ho2, h1 hw⟩
  · refine concat_meets ⟨_, ho, rfl⟩ ⟨_, ho2, rfl⟩ noFill_tuple_add seq_tuple_add PySem.F.slot_tuple_add PySem.F.entry_tuple_add (PySem.F.args_tuple_add_2 _ _)
      (tuple_addW2 t b vs.toArray ws.toArray n n2 dd dd2 sl sl2 (by simpa using hv) (by simpa using hw) (by rw [List.size_toArray, List.size_toArray]; exact hsz)) ⟨ho, ho2, ?_⟩
    rw [e]
    exact h2 hw
def sIx (n d : Nat) : Option Int → Nat
  | none => d
  | some v => if v < 0 then (v + (n : Int)).toNat else min v.toNat n
theorem sIx_none (n d : Nat) : sIx n d none = d := rfl
theorem sIx_nat (n d k : Nat) : sIx n d (some (k : Int)) = min k n := by
  show (if (k : Int) < 0 then ((k : Int) + (n : Int)).toNat else min (k : Int).toNat n) = min k n
  rw [if_neg (by omega), Int.toNat_natCast]
theorem sIx_le (n d : Nat) (hd : d ≤ n) (o : Option Int) : sIx n d o ≤ n := by
  cases o with
  | none => exact hd
  | some v =>
    show (if v < 0 then (v + (n : Int)).toNat else min v.toNat n) ≤ n
    by_cases hv : v < 0
    · rw [if_pos hv]; omega
    · rw [if_neg hv]; exact Nat.min_le_right _ _
theorem clip_eq (v : Int) (n d : Nat) : (if v < 0 then max (v + (n : Int)) 0 else min v (n : Int)) = ((sIx n d (some v) : Nat) : Int) := by
  show (if v < 0 then max (v + (n : Int)) 0 else min v (n : Int)) = (((if v < 0 then (v + (n : Int)).toNat else min v.toNat n) : Nat) : Int)
  by_cases hv : v < 0
  · simp only [if_pos hv]; omega
  · simp only [if_neg hv]; omega
theorem adjust_gen (lo hi : Option Int) (n : Nat) : Builtin.Slice.sliceAdjust lo hi 1 (n : Int) = (((sIx n 0 lo : Nat) : Int), ((sIx n n hi : Nat) : Int)) := by
  have h1 : ¬ ((1 : Int) < 0) := by omega
  unfold Builtin.Slice.sliceAdjust
  simp only [h1, if_false]
  refine Prod.ext ?_ ?_
  · cases lo with
    | none => rfl
    | some v => exact clip_eq v n 0
  · cases hi with
    | none => rfl
    | some v => exact clip_eq v n n
theorem places_gen (i j : Nat) : Builtin.Slice.slicePlaces (i : Int) (j : Int) 1 = j - i := by
  unfold Builtin.Slice.slicePlaces
  have h1 : (1 : Int) > 0 := by omega
  simp only [h1, if_true, Int.ediv_one]
  split <;> omega
theorem slicePart_ {v : Value} {o : Option Int} {Q : Option Int → Shared → Prop} (p : IsPart v o) (h : Q o s) : wpAny (model prog w) A (Builtin.Slice.slicePartIndex v) Q E s := by
  cases p with
  | none => exact slicePart_none h
  | int i t => exact slicePart_int h
theorem sliceApplied_gen {sl : Addr} {vl vu : Value} {lo hi : Option Int} {n : Nat} {Q : Int × Int × Nat → Shared → Prop} (hs : s.heap.IsSliceOf sl vl vu .none) (pl : IsPart vl lo) (pu : IsPart vu hi)
    (h : Q (((sIx n 0 lo : Nat) : Int), 1, sIx n n hi - sIx n 0 lo) s) : wpAny (model prog w) A (Builtin.Slice.sliceApplied (.ref sl) (pure (n : Int))) Q E s := by
  obtain ⟨os, hos, hcs, hds⟩ := id hs
  unfold Builtin.Slice.sliceApplied Builtin.Slice.sliceFields
  refine wpAny_bind (wpAny_bind (wpAny_field hos hds (x := vl) rfl (wpAny_bind (wpAny_field hos hds (x := vu) rfl (wpAny_bind (wpAny_field hos hds (x := .none) rfl (wpAny_pure ?_)))))))
  refine wpAny_bind (slicePart_none ?_)
  show wpAny _ _ (if ((1 : Int) == 0) = true then _ else _) _ _ s
  rw [if_neg (by decide)]
  refine wpAny_bind (slicePart_ pl (wpAny_bind (slicePart_ pu (wpAny_bind (wpAny_pure ?_)))))
  show wpAny _ _ (match Builtin.Slice.sliceAdjust lo hi 1 (n : Int) with | (lo, hi) => pure (lo, (1 : Int), Builtin.Slice.slicePlaces lo hi 1)) _ _ s
  rw [adjust_gen lo hi n]
  show wpAny _ _ (pure (((sIx n 0 lo : Nat) : Int), (1 : Int), Builtin.Slice.slicePlaces ((sIx n 0 lo : Nat) : Int) ((sIx n n hi : Nat) : Int) 1)) _ _ s
  rw [places_gen]
  exact wpAny_pure h
theorem pick_gen (xs : Array Value) (i k : Nat) : ((List.range k).filterMap fun (m : Nat) => xs[((i : Int) + (m : Int) * 1).toNat]?).toArray = ((xs.toList.drop i).take k).toArray := by
  have e : (fun (m : Nat) => xs[((i : Int) + (m : Int) * 1).toNat]?) = fun m => xs[i + m]? := by
    funext m
    have : ((i : Int) + (m : Int) * 1).toNat = i + m := by omega
    rw [this]
  rw [e]
  have := pick_run xs i k
  rw [List.filterMap_map] at this
  have e2 : ((fun x => xs[x]?) ∘ fun x => i + x) = fun m => xs[i + m]? := rfl
  rw [e2] at this
  rw [this]
theorem getItem_tuple_cut {t sl : Addr} {items : Array Value} {vl vu : Value} {lo hi : Option Int} {Q : Value → Shared → Prop} (ht : IsTup s.heap t items) (hs : s.heap.IsSliceOf sl vl vu .none) (pl : IsPart vl lo) (pu : IsPart vu hi)
    (hw : ¬ (sIx items.size 0 lo = 0 ∧ sIx items.size items.size hi = items.size))
    (h : Q (.ref s.heap.objs.size) { s with heap := s.heap.push { cls := .type "tuple", data := .seq ((items.toList.drop (sIx items.size 0 lo)).take (sIx items.size items.size hi - sIx items.size 0 lo)).toArray } })
    (hsz : items.size ≤ sizeLine) : wpAny (model prog w) A (getItem (.ref t) (.ref sl)) Q E s := by
  have htake : sizeOk (.seq ((items.toList.drop (sIx items.size 0 lo)).take (sIx items.size items.size hi - sIx items.size 0 lo)).toArray) := by
    show ((items.toList.drop (sIx items.size 0 lo)).take (sIx items.size items.size hi - sIx items.size 0 lo)).toArray.size ≤ sizeLine
    rw [List.size_toArray, List.length_take, List.length_drop, Array.length_toList]
    omega
  have hj : sIx items.size items.size hi ≤ items.size := sIx_le _ _ (Nat.le_refl _) hi
  obtain ⟨os, hos, hcs, hds⟩ := id hs
  have hTs : s.TypeIs (.ref sl) "slice" := ⟨os, hos, hcs⟩
  unfold getItem
  try with_reducible refine wpAny_holding ?_
  first | refine wpAny_bind (wpAny_pure ?_) | skip
  refine wpAny_bind (wpAny_sequenceKey ht.typeIs (by decide) ?_)
  refine wpAny_bind (wpAny_callSpecial?_slot (name := Str.ofString "__getitem__") ht.typeIs PyProof.Rows.slot_tuple_getitem
    (wpAny_call_entry PyProof.Rows.slot_tuple_getitem ht.typeIs entry_tuple_getitem ?_ (args_tuple_getitem _ _)))
  show wpAny _ _ (Builtin.Tuple.tupleItemsOf (.ref t) >>= _) _ _ s
  refine wpAny_bind (tupleItemsOf_ ht ?_)
  refine wpAny_bind (wpAny_typeOf hTs ?_)
  rw [if_pos (by decide)]
  refine wpAny_bind (sliceApplied_gen hs pl pu ?_)
  have hno : ¬ ((((sIx items.size 0 lo : Nat) : Int) == 0 && (1 : Int) == 1 && (sIx items.size items.size hi - sIx items.size 0 lo) == items.size) = true) := by
    intro q
    rw [Bool.and_eq_true, Bool.and_eq_true] at q
    have q1 : ((sIx items.size 0 lo : Nat) : Int) = 0 := eq_of_beq q.1.1
    have q2 : sIx items.size items.size hi - sIx items.size 0 lo = items.size := eq_of_beq q.2
    exact hw ⟨by omega, by omega⟩
  show wpAny _ _ (if (((sIx items.size 0 lo : Nat) : Int) == 0 && (1 : Int) == 1 && (sIx items.size items.size hi - sIx items.size 0 lo) == items.size) = true then _ else _) _ _ s
  rw [if_neg hno, pick_gen]
  first
    | exact wpAny_bind (m := Builtin.Tuple.tupleExact _) (wpAny_newObj_type (wpAny_pure ⟨_, rfl, wpAny_pure h⟩) htake)
    | exact wpAny_bind (m := Builtin.Tuple.tupleExact _) (wpAny_newObj_type (wpAny_bind (wpAny_pure (wpAny_pure ⟨_, rfl, wpAny_pure h⟩))) htake)
    | exact wpAny_bind (wpAny_bind (m := Builtin.Tuple.tupleExact _) (wpAny_newObj_type (wpAny_pure (wpAny_pure ⟨_, rfl, wpAny_pure h⟩)) htake))
    | exact wpAny_bind (wpAny_bind (m := Builtin.Tuple.tupleExact _) (wpAny_newObj_type (wpAny_pure ⟨_, rfl, wpAny_pure h⟩) htake))
end
end HT
namespace L2
open PySem PySem.Spec PyProof.Rows
abbrev TO := St → Hp → (Option Int → Hp → Prop) → Prop
def PO (X : Cx) (e : Option Expr) (t : TO) : Prop :=
  ∀ (pins : List (Addr × Obj)) (s : Shared) (σ : St) (H : Hp) (Q : Option Int → Hp → Prop), Inv X pins σ H s → t σ H Q →
    wpAny (model X.prog X.w) X.A (evalPart e X.env) (fun u s' => ∃ o H', Inv X pins σ H' s' ∧ IsPart u o ∧ Q o H') X.xe s
def tNoPart : TO := fun _ H Q => Q none H
def tPart (t : TE) : TO := fun σ H Q => t σ H fun x H1 => ∃ i, x = .int i ∧ Q (some i) H1
section
variable {X : Cx} {e : Expr} {te : TE} {lo hi : Option Expr} {tl th : TO} {pos p2 : Pos}
theorem po_none : PO X none tNoPart := by
  intro pins s σ H Q I h
  rw [evalPart_none]
  exact wpAny_pure ⟨none, H, I, .none, h⟩
theorem po_some (h : PE X e te) : PO X (some e) (tPart te) := by
  intro pins s σ H Q I hw
  rw [evalPart_some]
  refine thn (h pins s σ H _ I hw) fun u s1 ⟨x, H1, I1, r1, q1⟩ => ?_
  obtain ⟨i, rfl, q⟩ := q1
  obtain ⟨t, rfl⟩ := r1
  exact ⟨some i, H1, I1, .int i t, q⟩
def SlR (X : Cx) (r : V → Option Int → Option Int → Hp → VK → Prop) : Prop :=
  ∀ (pins : List (Addr × Obj)) (s : Shared) (σ : St) (H : Hp) (x : V) (v vl vu : Value) (lo hi : Option Int) (sl : Addr) (Q : VK), Inv X pins σ H s → RelV x v → s.heap.IsSliceOf sl vl vu .none → IsPart vl lo → IsPart vu hi → r x lo hi H Q →
    ∃ T id, typeLookup (.type T) "__getitem__" = pure (some (.builtin id)) ∧ s.TypeIs v T ∧ wpAny (model X.prog X.w) X.A (getItem v (.ref sl)) (EP X pins σ Q) X.xe s
theorem SlR.or {r r' : V → Option Int → Option Int → Hp → VK → Prop} (h : SlR X r) (h' : SlR X r') : SlR X (fun x lo hi H Q => r x lo hi H Q ∨ r' x lo hi H Q) := by
  intro pins s σ H x v vl vu lo hi sl Q I rx hs pl pu q
  rcases q with q | q
  · exact h pins s σ H x v vl vu lo hi sl Q I rx hs pl pu q
  · exact h' pins s σ H x v vl vu lo hi sl Q I rx hs pl pu q
def tSl (r : V → Option Int → Option Int → Hp → VK → Prop) (te : TE) (tl th : TO) : TE := fun σ H Q => te σ H fun x H1 => tl σ H1 fun l H2 => th σ H2 fun u H3 => r x l u H3 Q
theorem pe_slice {r : V → Option Int → Option Int → Hp → VK → Prop} (hr : SlR X r) (he : PE X e te) (hl : PO X lo tl) (hu : PO X hi th) : PE X (.Subscript e (.Slice lo hi none p2) pos) (tSl r te tl th) := by
  intro pins s σ H Q I h
  refine Subscript_ (thn (he pins s σ H _ I h) fun v s1 ⟨x, H1, I1, r1, q1⟩ => ?_)
  refine wpAny_Slice (thn (hl pins s1 σ H1 _ I1 q1) fun vl s2 ⟨l, H2, I2, pl, q2⟩ => thn (hu pins s2 σ H2 _ I2 q2) fun vu s3 ⟨u, H3, I3, pu, q3⟩ => ?_)
  rw [evalPart_none]
  refine wpAny_pure ?_
  have I4 : Inv X pins σ H3 { s3 with heap := s3.heap.push { cls := .type "slice", data := .fields #[vl, vu, .none] } } := I3.kept (t' := s3.toks) fun b ob q => Heap.get?_push_of_some _ q
  obtain ⟨T, id, hT, ht, hg⟩ := hr pins { s3 with heap := s3.heap.push { cls := .type "slice", data := .fields #[vl, vu, .none] } } σ H3 x v vl vu l u s3.heap.objs.size Q I4 r1 (Heap.IsSliceOf.new ..) pl pu q3
  show wpAny (model X.prog X.w) X.A (subscriptTail e (.Slice lo hi none p2) v (.ref s3.heap.objs.size)) (EP X pins σ Q) X.xe { s3 with heap := s3.heap.push { cls := .type "slice", data := .fields #[vl, vu, .none] } }
  exact tail_any (ops := [.ref s3.heap.objs.size, v]) ht hT hg (by with_unfolding_all rfl)
def cutV (xs : List V) (lo hi : Option Int) : List V := (xs.drop (HT.sIx xs.length 0 lo)).take (HT.sIx xs.length xs.length hi - HT.sIx xs.length 0 lo)
theorem cutV_length (xs : List V) (lo hi : Option Int) : (cutV xs lo hi).length ≤ xs.length := by
  unfold cutV
  rw [List.length_take, List.length_drop]
  omega
def rSlT (K : PySem.W.Frag) : V → Option Int → Option Int → Hp → VK → Prop := fun x lo hi H Q => ∃ a xs, x = .ref a ∧ SqT K H a xs ∧
  ¬ (HT.sIx xs.length 0 lo = 0 ∧ HT.sIx xs.length xs.length hi = xs.length) ∧ ∀ p, H p = none → Q (.ref p) (upd H p (.tup (cutV xs lo hi)))
theorem sl_tup : SlR X (rSlT X.K) := by
  intro pins s σ H x v vl vu lo hi sl Q I rx hs pl pu h
  obtain ⟨a, xs, rfl, hx, hw, q⟩ := h
  cases rx
  obtain ⟨its, r, ht, hz⟩ := I.tuple hx
  have hlen : its.toArray.size = xs.length := by rw [List.size_toArray]; exact r.length.symm
  refine ⟨"tuple", _, PyProof.Rows.slot_tuple_getitem.lookup, ht.typeIs, ?_⟩
  refine HT.getItem_tuple_cut ht hs pl pu (by rw [hlen]; exact hw) ?_ (by rw [hlen]; exact hz)
  rw [hlen]
  refine ⟨.ref s.heap.objs.size, _, I.laid (t' := s.toks) (o := .tup (cutV xs lo hi)) (fun b ob q => Heap.get?_push_of_some _ q) (Nat.le_refl _) ?_, rfl, q _ (I.hok.fresh (Nat.le_refl _))⟩
  exact ⟨Nat.le_trans (cutV_length xs lo hi) hz, _, (r.drop (HT.sIx xs.length 0 lo)).take (HT.sIx xs.length xs.length hi - HT.sIx xs.length 0 lo), IsTup.new _ _⟩
def rCatT (K : PySem.W.Frag) : R2 := fun x y H Q => ∃ a b xs ys, x = .ref a ∧ y = .ref b ∧ SqT K H a xs ∧ SqT K H b ys ∧ xs ≠ [] ∧ xs.length + ys.length ≤ sizeLine ∧
  (ys = [] → Q (.ref a) H) ∧ (ys ≠ [] → ∀ p, H p = none → Q (.ref p) (upd H p (.tup (xs ++ ys))))
theorem Vals.nil_iff {xs : List V} {us : List Value} (r : Vals xs us) : us = [] ↔ xs = [] := by
  cases r with
  | nil => simp
  | cons _ _ => simp
theorem op_catT : OpR X (binaryOp .Add) (rCatT X.K) := by
  intro pins s σ H x y v u Q I rx ry h
  obtain ⟨a, b, xs, ys, rfl, rfl, ha, hb, hx, hz, q1, q2⟩ := h
  cases rx
  cases ry
  obtain ⟨its, r1, p1, _⟩ := I.tuple ha
  obtain ⟨its2, r2, p2, _⟩ := I.tuple hb
  refine HT.cat_tup p1 p2 (fun z => hx (r1.nil_iff.mp z)) (fun z => ⟨.ref a, H, I, rfl, q1 (r2.nil_iff.mp z)⟩) (fun z => ?_) (by rw [← r1.length, ← r2.length]; exact hz)
  refine ⟨.ref s.heap.objs.size, _, I.laid (t' := s.toks) (o := .tup (xs ++ ys)) (fun b ob q => Heap.get?_push_of_some _ q) (Nat.le_refl _) ?_, rfl, q2 (fun w => z (r2.nil_iff.mpr w)) _ (I.hok.fresh (Nat.le_refl _))⟩
  exact ⟨by rw [List.length_append]; exact hz, _, r1.append r2, IsTup.new _ _⟩
end
end L2
namespace L2
open PySem PySem.Spec PyProof.Rows
def ixN (n : Nat) (i : Int) : Option Nat := if 0 ≤ i then (if i < n then some i.toNat else none) else if -(n : Int) ≤ i then some (i + n).toNat else none
def atI {α : Type} (xs : List α) (i : Int) : Option α := (ixN xs.length i).bind fun j => xs[j]?
theorem ixN_seq {n : Nat} {i : Int} {j : Nat} (h : ixN n i = some j) : seqIndex? i n = some j ∧ j < n ∧ -(n : Int) ≤ i ∧ i < n := by
  unfold ixN at h
  by_cases h0 : 0 ≤ i
  · rw [if_pos h0] at h
    by_cases h1 : i < n
    · rw [if_pos h1] at h
      have e : i.toNat = j := Option.some.inj h
      exact ⟨by rw [seqIndex_of h0 h1, e], by omega, by omega, h1⟩
    · rw [if_neg h1] at h; cases h
  · rw [if_neg h0] at h
    by_cases h1 : -(n : Int) ≤ i
    · rw [if_pos h1] at h
      have e : (i + n).toNat = j := Option.some.inj h
      exact ⟨by rw [seqIndex_neg (by omega) h1, e], by omega, h1, by omega⟩
    · rw [if_neg h1] at h; cases h
theorem atI_get {α : Type} {xs : List α} {i : Int} {v : α} (h : atI xs i = some v) : ∃ j, seqIndex? i xs.length = some j ∧ xs[j]? = some v ∧ j < xs.length ∧ -(xs.length : Int) ≤ i ∧ i < xs.length := by
  unfold atI at h
  cases e : ixN xs.length i with
  | none => rw [e] at h; cases h
  | some j =>
    rw [e] at h
    obtain ⟨h1, h2, h3, h4⟩ := ixN_seq e
    exact ⟨j, h1, h, h2, h3, h4⟩
theorem atI_nat {α : Type} {xs : List α} {j : Nat} {v : α} (h : xs[j]? = some v) : atI xs (j : Int) = some v := by
  have hj : j < xs.length := (List.getElem?_eq_some_iff.mp h).1
  have e : ixN xs.length (j : Int) = some j := by
    unfold ixN
    rw [if_pos (by omega), if_pos (by omega)]; simp
  unfold atI; rw [e]; exact h
theorem atI_last {α : Type} (xs : List α) (v : α) : atI (xs ++ [v]) (-1) = some v := by
  have hl : (xs ++ [v]).length = xs.length + 1 := by simp
  have e : ixN (xs ++ [v]).length (-1) = some xs.length := by
    unfold ixN
    rw [hl, if_neg (by decide), if_pos (by omega)]
    congr 1
    omega
  unfold atI
  rw [e]
  show (xs ++ [v])[xs.length]? = some v
  simp
def PlainIx (b : Expr) : Prop := ∀ o i, subscripted b false o i = operate [o, i] (getItem o i)
def IxR (X : Cx) (r : R2) : Prop :=
  ∀ (value slice : Expr) (pins : List (Addr × Obj)) (s : Shared) (σ : St) (H : Hp) (x y : V) (v u : Value) (Q : VK), Inv X pins σ H s → RelV x v → RelV y u → r x y H Q →
    subscripted slice false v u = operate [v, u] (getItem v u) → wpAny (model X.prog X.w) X.A (subscriptTail value slice v u) (EP X pins σ Q) X.xe s
def MtR (X : Cx) (id : String) (r : V → List V → Hp → VK → Prop) : Prop :=
  ∀ (pins : List (Addr × Obj)) (s : Shared) (σ : St) (H : Hp) (x : V) (xs : List V) (v : Value) (us : List Value) (Q : VK), Inv X pins σ H s → RelV x v → Vals xs us → r x xs H Q →
    wpAny (model X.prog X.w) X.A (call (.builtin id) (v :: us)) (EP X pins σ Q) X.xe s
section
variable {X : Cx} {a b : Expr} {ta tb : TE} {pos : Pos}
theorem IxR.or {r r' : R2} (h : IxR X r) (h' : IxR X r') : IxR X (fun x y H Q => r x y H Q ∨ r' x y H Q) := by
  intro value slice pins s σ H x y v u Q I rx ry q hs
  rcases q with q | q
  · exact h value slice pins s σ H x y v u Q I rx ry q hs
  · exact h' value slice pins s σ H x y v u Q I rx ry q hs
theorem MtR.or {id : String} {r r' : V → List V → Hp → VK → Prop} (h : MtR X id r) (h' : MtR X id r') : MtR X id (fun x xs H Q => r x xs H Q ∨ r' x xs H Q) := by
  intro pins s σ H x xs v us Q I rx rs q
  rcases q with q | q
  · exact h pins s σ H x xs v us Q I rx rs q
  · exact h' pins s σ H x xs v us Q I rx rs q
theorem pe_ix {r : R2} (hr : IxR X r) (ha : PE X a ta) (hb : PE X b tb) (hs : PlainIx b) : PE X (.Subscript a b pos) (tOp r ta tb) := by
  intro pins s σ H Q I h
  exact Subscript_ (binT ha hb I h fun v u s2 x y H2 I2 rx ry q => hr a b pins s2 σ H2 x y v u Q I2 rx ry q (hs _ _))
def rIxL (K : PySem.W.Frag) : R2 := fun x y H Q => ∃ p xs i v, x = .ref p ∧ y = .int i ∧ SqL K H p xs ∧ atI xs i = some v ∧ Q v H
def rIxT (K : PySem.W.Frag) : R2 := fun x y H Q => ∃ p xs i v, x = .ref p ∧ y = .int i ∧ SqT K H p xs ∧ atI xs i = some v ∧ Q v H
def rIxS : R2 := fun x y H Q => ∃ z i c, x = .str z ∧ y = .int i ∧ z.length ≤ sizeLine ∧ atI z.cps.toList i = some c ∧ Q (.str ⟨#[c]⟩) H
theorem ix_list : IxR X (rIxL X.K) := by
  intro value slice pins s σ H x y v u Q I rx ry h hs
  obtain ⟨p, xs, i, z, rfl, rfl, hq, he, q⟩ := h
  cases rx
  obtain ⟨t, rfl⟩ := ry
  obtain ⟨its, r, pl, hz⟩ := I.list hq
  obtain ⟨j, h1, h2, h3, h4, h5⟩ := atI_get he
  obtain ⟨w, ew, rw'⟩ := r.get h2
  have hl := r.length
  have hn := line63
  have fin : EP X pins σ Q w s := ⟨z, H, I, rw', q⟩
  by_cases h0 : 0 ≤ i
  · have hj : i.toNat = j := by
      rw [seqIndex_of h0 h5] at h1
      exact Option.some.inj h1
    exact item_listR pl.isList h0 (by omega) (by rw [hj]; simpa using ew) fin hs
  · have hj : (i + (its.toArray.size : Int)).toNat = j := by
      rw [seqIndex_neg (by omega) h4] at h1
      rw [List.size_toArray, ← hl]
      exact Option.some.inj h1
    exact subscriptTail_builtinR (x := w) pl.isList.typeIs slot_list_getitem.lookup
      (wpAny_getItem_list_neg (Q := fun r s' => r = w ∧ EP X pins σ Q r s') pl.isList (by omega) (by rw [List.size_toArray] <;> omega) (by omega) (by rw [hj]; simpa using ew) ⟨rfl, fin⟩) hs
theorem ix_tup : IxR X (rIxT X.K) := by
  intro value slice pins s σ H x y v u Q I rx ry h hs
  obtain ⟨p, xs, i, z, rfl, rfl, hq, he, q⟩ := h
  cases rx
  obtain ⟨t, rfl⟩ := ry
  obtain ⟨its, r, pl, hz⟩ := I.tuple hq
  obtain ⟨j, h1, h2, h3, h4, h5⟩ := atI_get he
  obtain ⟨w, ew, rw'⟩ := r.get h2
  have hl := r.length
  have hn := line63
  have fin : EP X pins σ Q w s := ⟨z, H, I, rw', q⟩
  exact subscriptTail_builtinR (x := w) pl.typeIs slot_tuple_getitem.lookup
    (getItem_tuple (j := j) (Q := fun r s' => r = w ∧ EP X pins σ Q r s') pl (by omega) (by omega) (by rw [List.size_toArray, ← hl]; exact h1) (by simpa using ew) ⟨rfl, fin⟩) hs
theorem ix_str : IxR X rIxS := by
  intro value slice pins s σ H x y v u Q I rx ry h hs
  obtain ⟨z, i, c, rfl, rfl, hz, he, q⟩ := h
  obtain ⟨t, rfl⟩ := rx
  obtain ⟨t', rfl⟩ := ry
  obtain ⟨j, h1, h2, h3, h4, h5⟩ := atI_get he
  have hl : z.cps.toList.length = z.length := by simp [Str.length]
  rw [hl] at h1 h4 h5
  have hn := line63
  exact tail_any (typeIs_str s z t) slot_str_getitem.lookup (getItem_str (c := c) (by
    have e1 : decide (i < -(2 ^ 63 : Int)) = false := decide_eq_false (by omega)
    have e2 : decide (i ≥ 2 ^ 63) = false := decide_eq_false (by omega)
    rw [e1, e2, Bool.or_false]) (by rw [h1]; simpa using h2) ⟨.str ⟨#[c]⟩, H, I.tok _, ⟨_, rfl⟩, q⟩) hs
def rIx (K : PySem.W.Frag) : R2 := fun x y H Q => rIxL K x y H Q ∨ rIxT K x y H Q ∨ rIxS x y H Q
theorem ix_seq : IxR X (rIx X.K) := ix_list.or (ix_tup.or ix_str)
theorem mapSeq_set (its : List Value) (n j : Nat) (u : Value) : Obj.mapSeq (·.setIfInBounds j u) { cls := .type "list", data := .seq its.toArray n } = { cls := .type "list", data := .seq (its.set j u).toArray n } := by
  simp [Obj.mapSeq]
theorem Inv.lst {pins : List (Addr × Obj)} {σ : St} {H : Hp} {s : Shared} {p : Addr} {xs : List V} (I : Inv X pins σ H s) (h : H p = some (.lst xs)) :
    ∃ (its : List Value) (n : Nat), Vals xs its ∧ s.heap.get? p = some { cls := .type "list", data := .seq its.toArray n } ∧ xs.length ≤ sizeLine := by
  obtain ⟨z, its, n, r, e⟩ := I.hok p _ h
  exact ⟨its, n, r, e, z⟩
theorem Inv.lstUpd {pins : List (Addr × Obj)} {σ : St} {H : Hp} {s : Shared} {p : Addr} {xs ys : List V} {its its' : List Value} {n n' : Nat} {f : Obj → Obj} (I : Inv X pins σ H s) (h : H p = some (.lst xs))
    (ho : s.heap.get? p = some { cls := .type "list", data := .seq its.toArray n }) (hf : f { cls := .type "list", data := .seq its.toArray n } = { cls := .type "list", data := .seq its'.toArray n' }) (r : Vals ys its') (hz : ys.length ≤ sizeLine) (t : Nat) :
    Inv X pins σ (upd H p (.lst ys)) { s with heap := s.heap.update p f, toks := t } := by
  have e : (s.heap.update p f).get? p = some { cls := .type "list", data := .seq its'.toArray n' } := by
    rw [Heap.get?_update_self f ho (by rw [hf] <;> rfl), hf]
  refine I.write (x := p) (e := p) (by rw [h]; trivial) (.inl rfl) (fun b u hb q => (Heap.get?_update_other _ _ (Ne.symm hb)).trans q) ⟨_, e⟩ ?_
  exact ⟨hz, its', n', r, e⟩
def rSetL : V → V → V → Hp → (Hp → Prop) → Prop := fun o i v H Q => ∃ p xs k j, o = .ref p ∧ i = .int k ∧ H p = some (.lst xs) ∧ ixN xs.length k = some j ∧ Q (upd H p (.lst (xs.set j v)))
theorem set_list : PSet X rSetL := by
  intro pins s σ H o i v ov iv u Q I ro ri rv h
  obtain ⟨p, xs, k, j, rfl, rfl, hp, hj, q⟩ := h
  cases ro
  obtain ⟨t, rfl⟩ := ri
  obtain ⟨its, n, r, ho, hz⟩ := I.lst hp
  obtain ⟨h1, h2, h3, h4⟩ := ixN_seq hj
  have hl := r.length
  have hn := line63
  have I' : Inv X pins σ (upd H p (.lst (xs.set j v))) { s with heap := s.heap.update p (Obj.mapSeq (·.setIfInBounds j u)) } :=
    I.lstUpd hp ho (mapSeq_set its n j u) (r.set rv j) (by rw [List.length_set]; exact hz) s.toks
  by_cases h0 : 0 ≤ k
  · have hk : k.toNat = j := by
      rw [seqIndex_of h0 h4] at h1
      exact Option.some.inj h1
    exact PySem.W.ki_setAt ho h0 (by omega) (by rw [List.size_toArray, ← hl]; exact h4) (by rw [hk]; exact ⟨_, I', q⟩)
  · have hk : (k + (its.toArray.size : Int)).toNat = j := by
      rw [seqIndex_neg (by omega) h3] at h1
      rw [List.size_toArray, ← hl]
      exact Option.some.inj h1
    exact PySem.W.ki_setBack ho (by omega) (by rw [List.size_toArray, ← hl]; exact h3) (by omega) (by rw [hk]; exact ⟨_, I', q⟩)
theorem slice_bounds (lo hi : Option Int) (n : Nat) : (sliceBounds lo hi none n).1 = ((HT.sIx n 0 lo : Nat) : Int) ∧ (sliceBounds lo hi none n).2.1 = ((HT.sIx n n hi : Nat) : Int) ∧ (sliceBounds lo hi none n).2.2 = 1 := by
  refine ⟨?_, ?_, rfl⟩
  · cases lo with
    | none => simp [sliceBounds, HT.sIx]
    | some i =>
      simp only [sliceBounds, HT.sIx, Option.getD_none, show (1 : Int) > 0 by decide, if_true]
      by_cases h : i < 0
      · simp only [h, if_true] <;> omega
      · simp only [h, if_false] <;> omega
  · cases hi with
    | none => simp [sliceBounds, HT.sIx]
    | some i =>
      simp only [sliceBounds, HT.sIx, Option.getD_none, show (1 : Int) > 0 by decide, if_true]
      by_cases h : i < 0
      · simp only [h, if_true] <;> omega
      · simp only [h, if_false] <;> omega
theorem slicePick_cut (its : List Value) (lo hi : Option Int) : slicePick its.toArray lo hi none = ((its.drop (HT.sIx its.length 0 lo)).take (HT.sIx its.length its.length hi - HT.sIx its.length 0 lo)).toArray := by
  obtain ⟨h1, h2, h3⟩ := slice_bounds lo hi its.toArray.size
  unfold slicePick
  rw [h1, h2, h3]
  simp only [sliceRange_one, pick_run, List.size_toArray] <;> rfl
def rSlL (K : PySem.W.Frag) : V → Option Int → Option Int → Hp → VK → Prop := fun x lo hi H Q => ∃ a xs, x = .ref a ∧ SqL K H a xs ∧ ∀ p, H p = none → Q (.ref p) (upd H p (.lst (cutV xs lo hi)))
theorem sl_list : SlR X (rSlL X.K) := by
  intro pins s σ H x v vl vu lo hi sl Q I rx hs pl pu h
  obtain ⟨a, xs, rfl, hx, q⟩ := h
  cases rx
  obtain ⟨its, r, ht, hz⟩ := I.list hx
  have hlen := r.length
  refine ⟨"list", _, slot_list_getitem.lookup, ht.isList.typeIs, ?_⟩
  refine wpAny_getItem_list_slice ht.isList hs pl pu .none (by simp) ?_ (by rw [List.size_toArray] <;> omega)
  rw [slicePick_cut, ← hlen]
  refine ⟨.ref s.heap.objs.size, _, I.laid (t' := s.toks) (o := .lst (cutV xs lo hi)) (fun b ob q => Heap.get?_push_of_some _ q) (Nat.le_refl _) ?_, rfl, q _ (I.hok.fresh (Nat.le_refl _))⟩
  exact ⟨Nat.le_trans (cutV_length xs lo hi) hz, _, 0, (r.drop (HT.sIx xs.length 0 lo)).take (HT.sIx xs.length xs.length hi - HT.sIx xs.length 0 lo), Heap.get?_push_size _ rfl⟩
def flatV : V → Bool
  | .non => true
  | .bl _ => true
  | .int _ => true
  | .str _ => true
  | _ => false
def eqV : V → V → Bool
  | .non, .non => true
  | .bl a, .bl b => a == b
  | .bl a, .int b => (if a then 1 else 0) == b
  | .int a, .bl b => a == (if b then 1 else 0)
  | .int a, .int b => a == b
  | .str a, .str b => a == b
  | _, _ => false
def inV (x : V) (xs : List V) : Bool := xs.any fun y => eqV y x
def rIn (K : PySem.W.Frag) (neg : Bool) : R2 := fun x y H Q => ∃ p xs, y = .ref p ∧ (SqL K H p xs ∨ SqT K H p xs) ∧ flatV x = true ∧ xs.all flatV = true ∧ Q (.bl (if neg then !inV x xs else inV x xs)) H
theorem call_len_seq : CallR X (.builtin "len") (fun xs H Q => ∃ p ys, xs = [.ref p] ∧ (SqL X.K H p ys ∨ SqT X.K H p ys) ∧ Q (.int ys.length) H) := by
  intro pins s σ H xs us Q I r h
  obtain ⟨p, ys, rfl, hq, q⟩ := h
  obtain ⟨u, rfl, rx⟩ := vals1 r
  cases rx
  have hn := line63
  rcases hq with hq | hq
  · obtain ⟨its, r', pl, hz⟩ := I.list hq
    have hlen := r'.length
    exact Calls.call_len_list pl.isList (by simp only [List.size_toArray] <;> omega) ⟨.int ys.length, H, I.tok _, ⟨s.toks + 1, by rw [List.size_toArray, hlen]⟩, q⟩
  · obtain ⟨its, r', pl, hz⟩ := I.tuple hq
    have hlen := r'.length
    exact len_tuple pl (by simp only [List.size_toArray] <;> omega) ⟨.int ys.length, H, I.tok _, ⟨s.toks + 1, by rw [List.size_toArray, hlen]⟩, q⟩
theorem CallR.or {f : Value} {r r' : List V → Hp → VK → Prop} (h : CallR X f r) (h' : CallR X f r') : CallR X f (fun xs H Q => r xs H Q ∨ r' xs H Q) := by
  intro pins s σ H xs us Q I rs q
  rcases q with q | q
  · exact h pins s σ H xs us Q I rs q
  · exact h' pins s σ H xs us Q I rs q
theorem call_list_of : CallR X (.type "list") (fun xs H Q => ∃ p ys, xs = [.ref p] ∧ (SqL X.K H p ys ∨ SqT X.K H p ys) ∧ ∀ l, H l = none → Q (.ref l) (upd H l (.lst ys))) := by
  intro pins s σ H xs us Q I r h
  obtain ⟨p, ys, rfl, hq, q⟩ := h
  obtain ⟨u, rfl, rx⟩ := vals1 r
  cases rx
  have fin : ∀ (its : List Value), Vals ys its → ys.length ≤ sizeLine → ∀ (h' : Heap) (c' : Nat), (∀ b o', s.heap.get? b = some o' → h'.get? b = some o') →
      h'.get? s.heap.objs.size = some { cls := .type "list", dict := none, data := .seq its.toArray c', slots := #[] } → EP X pins σ Q (.ref s.heap.objs.size) { s with heap := h' } := fun its r' hz h' c' kp e =>
    ⟨.ref s.heap.objs.size, _, I.laid (t' := s.toks) kp (Nat.le_refl _) (show ObjOk X.prog X.w _ h' _ (.lst ys) from ⟨hz, its, c', r', e⟩), rfl, q _ (I.hok.fresh (Nat.le_refl _))⟩
  rcases hq with hq | hq
  · obtain ⟨its, r', pl, hz⟩ := I.list hq
    have hlen := r'.length
    obtain ⟨o, ho, hc, n, hd⟩ := pl.isList
    exact call_list_seq p (.inl rfl) ho hc hd (fun h' c' kp e => fin its r' hz h' c' kp e) (by simp only [List.size_toArray] <;> omega)
  · obtain ⟨its, r', pl, hz⟩ := I.tuple hq
    have hlen := r'.length
    obtain ⟨o, ho, hc, n, hd⟩ := pl
    exact call_list_seq p (.inr rfl) ho hc hd (fun h' c' kp e => fin its r' hz h' c' kp e) (by simp only [List.size_toArray] <;> omega)
theorem call_tuple_of : CallR X (.type "tuple") (fun xs H Q => ∃ p ys, xs = [.ref p] ∧ ((SqL X.K H p ys ∧ ∀ l, H l = none → Q (.ref l) (upd H l (.tup ys))) ∨ (SqT X.K H p ys ∧ Q (.ref p) H))) := by
  intro pins s σ H xs us Q I r h
  obtain ⟨p, ys, rfl, h⟩ := h
  obtain ⟨u, rfl, rx⟩ := vals1 r
  cases rx
  rcases h with ⟨hq, q⟩ | ⟨hq, q⟩
  · obtain ⟨its, r', pl, hz⟩ := I.list hq
    have hlen := r'.length
    refine call_tuple_list pl.isList (fun h' kp => ?_) (by simp only [List.size_toArray] <;> omega)
    have I1 : Inv X pins σ H { s with heap := h' } := I.kept (t' := s.toks) kp
    have I2 : Inv X pins σ (upd H h'.objs.size (.tup ys)) { s with heap := h'.push { cls := .type "tuple", data := .seq its.toArray } } :=
      I1.laid (t' := s.toks) (fun b o e => Heap.get?_push_of_some _ e) (Nat.le_refl _) (show ObjOk X.prog X.w _ _ _ (.tup ys) from ⟨hz, its, r', IsTup.new _ _⟩)
    exact ⟨.ref h'.objs.size, _, I2, rfl, q _ (I1.hok.fresh (Nat.le_refl _))⟩
  · obtain ⟨its, r', pl, hz⟩ := I.tuple hq
    exact call_tuple_same pl ⟨.ref p, H, I, rfl, q⟩
def tyV (K : PySem.W.Frag) (T : String) (x : V) (H : Hp) : Prop := match x with
  | .str _ => T = "str"
  | .int _ => T = "int"
  | .ref p => (T = "list" ∧ ∃ xs, SqL K H p xs) ∨ (T = "tuple" ∧ ∃ o, K.lookup p = some o ∧ o.cls = .type "tuple" ∧ o.dict = none) ∨
      (T = "dict" ∧ ((∃ kvs, H p = some (.dK kvs)) ∨ ∃ kvs, H p = some (.dT kvs))) ∨ (T = "set" ∧ ∃ S n, H p = some (.set S n))
  | _ => False
theorem tyV_is {pins : List (Addr × Obj)} {σ : St} {H : Hp} {s : Shared} {T : String} {x : V} {v : Value} (I : Inv X pins σ H s) (r : RelV x v) (ty : tyV X.K T x H) :
    s.TypeIs v T ∧ ∀ a, v = .ref a → ∃ ob, s.heap.get? a = some ob ∧ ob.dict = none := by
  cases x with
  | str z =>
    obtain ⟨t, rfl⟩ := r
    cases (show T = "str" from ty)
    exact ⟨typeIs_str s z t, fun _ e => nomatch e⟩
  | int i =>
    obtain ⟨t, rfl⟩ := r
    cases (show T = "int" from ty)
    exact ⟨typeIs_int s i t, fun _ e => nomatch e⟩
  | ref p =>
    cases r
    rcases ty with ⟨rfl, xs, hq⟩ | ⟨rfl, o, hk, hc, hd⟩ | ⟨rfl, hk⟩ | ⟨rfl, S, n, hk⟩
    · obtain ⟨its, _, pl, _⟩ := I.list hq
      refine ⟨pl.isList.typeIs, fun a e => ?_⟩
      cases e
      obtain ⟨o, n, e, c, hd, _⟩ := pl
      exact ⟨o, e, hd⟩
    · refine ⟨⟨o, I.kIn p o hk, hc⟩, fun a e => ?_⟩
      cases e
      exact ⟨o, I.kIn _ o hk, hd⟩
    · have z : ∃ o, s.heap.get? p = some o ∧ o.ExactDict := by
        rcases hk with ⟨kvs, hk⟩ | ⟨kvs, hk⟩
        · obtain ⟨_, _, _, _, o, _, _, e, ex, _⟩ := I.hok p _ hk
          exact ⟨o, e, ex⟩
        · obtain ⟨_, _, _, _, o, _, _, e, ex, _⟩ := I.hok p _ hk
          exact ⟨o, e, ex⟩
      obtain ⟨o, e, ex⟩ := z
      refine ⟨⟨o, e, ex.1⟩, fun a e2 => ?_⟩
      cases e2
      exact ⟨o, e, ex.2.1⟩
    · obtain ⟨o, _, _, _, e, ex, _⟩ := I.hok p _ hk
      refine ⟨⟨o, e, ex.1⟩, fun a e2 => ?_⟩
      cases e2
      exact ⟨o, e, ex.2.1⟩
  | _ => exact False.elim ty
def tBM0 (K : PySem.W.Frag) (T : String) (r : V → List V → Hp → VK → Prop) (to : TE) : TE := fun σ H Q => to σ H fun x H1 => tyV K T x H1 ∧ r x [] H1 Q
def tBM (K : PySem.W.Frag) (T : String) (r : V → List V → Hp → VK → Prop) (to : TE) (t : TA) : TE := fun σ H Q => to σ H fun x H1 => tyV K T x H1 ∧ t σ H1 fun xs H2 => r x xs H2 Q
variable {o e : Expr} {es : List Expr} {to : TE} {t : TA} {name : Str} {apos cpos : Pos} {T id : String} {r : V → List V → Hp → VK → Prop}
theorem pe_bm (pa : PlainAttrs T) (slot : Slot T name id) (hty : typeOf (.builtin id) = pure (.type "method_descriptor")) (hm : MtR X id r) (ho : PE X o to) (ha : PA X (e :: es) t)
    (hbase : attributeBase o name X.env (eval o X.env) = eval o X.env := by rfl)
    (hfew : ((backTo cpos (starEach (e :: es) X.env)).all (fun x => !x.1) && (backToKw cpos (keywordEach [] X.env)).all (fun x => x.1.isSome)
      && decide ((e :: es).length + ([] : List Keyword).length + (if ([] : List Keyword).isEmpty then 0 else 1) < 30)) = true := by rfl)
    (hline : (apos.endLine == cpos.line) = true := by rfl) (hs : starEach (e :: es) X.env = (false, eval e X.env) :: starEach es X.env := by rfl) (hplain : (backTo cpos (starEach es X.env)).any (·.1) = false := by rfl) :
    PE X (.Call (.Attribute o name apos) (e :: es) [] cpos) (tBM X.K T r to t) := by
  intro pins s σ H Q I h
  refine wpAny_Call_method_late hbase hfew hline rfl (thn (ho pins s σ H _ I h) fun v s1 ⟨x, H1, I1, r1, ty, q1⟩ => ?_)
  obtain ⟨h1, h2⟩ := tyV_is I1 r1 ty
  refine ⟨T, id, pa, slot, hty, h1, h2, ?_⟩
  have hA := ha cpos pins s1 σ H1 _ I1 q1
  rw [hs] at hA ⊢
  refine Calls.callWith_builtin (by show (false || (backTo cpos (starEach es X.env)).any (·.1)) = false; rw [hplain] <;> rfl) (Calls.evalArgs_plain ?_)
  exact thn hA fun us s2 ⟨vs, H2, I2, r2, q2⟩ => hm pins s2 σ H2 x vs v us Q I2 r1 r2 q2
/- xs.append(e), list.index on a module's tuple .. are MtR facts of 06m -/
end
end L2
namespace L2
open PySem PySem.Spec PyProof.Rows
def MtM (X : Cx) (id : String) (r : V → List V → Hp → VK → Prop) : Prop :=
  ∀ (pins : List (Addr × Obj)) (s : Shared) (σ : St) (H : Hp) (x : V) (xs : List V) (v : Value) (us : List Value) (Q : VK), Inv X pins σ H s → RelV x v → Vals xs us → r x xs H Q →
    wpAny (model X.prog X.w) X.A (call (.builtin id) (v :: us)) (EP X pins σ Q) X.xe s
theorem Vals.one : ∀ {x : V} {us : List Value}, Vals [x] us → ∃ u, us = [u] ∧ RelV x u
  | _, _, .cons r .nil => ⟨_, rfl, r⟩
theorem Vals.zero : ∀ {us : List Value}, Vals [] us → us = []
  | _, .nil => rfl
theorem Vals.reverse {xs : List V} {us : List Value} (h : Vals xs us) : Vals xs.reverse us.reverse := by
  induction h with
  | nil => exact .nil
  | cons r t ih => rw [List.reverse_cons, List.reverse_cons]; exact Vals.append ih (.cons r .nil)
theorem Vals.rep {xs : List V} {us : List Value} (h : Vals xs us) : ∀ k : Nat, Vals (List.replicate k xs).flatten (List.replicate k us).flatten
  | 0 => .nil
  | k + 1 => by
    rw [List.replicate_succ, List.replicate_succ, List.flatten_cons, List.flatten_cons]
    exact Vals.append h (Vals.rep h k)
theorem foldl_rep (its : List Value) : ∀ (k : Nat) (acc : List Value),
    List.foldl (fun x1 x2 => x1 ++ x2) acc.toArray (List.replicate k its.toArray) = (acc ++ (List.replicate k its).flatten).toArray
  | 0, acc => by simp
  | k + 1, acc => by
    have e : acc.toArray ++ its.toArray = (acc ++ its).toArray := by simp
    have e2 : (acc ++ its) ++ (List.replicate k its).flatten = acc ++ (List.replicate (k + 1) its).flatten := by
      rw [List.replicate_succ, List.flatten_cons, List.append_assoc]
    rw [← e2, ← foldl_rep its k (acc ++ its), ← e, List.replicate_succ, List.foldl_cons]
section
variable {X : Cx} {pins : List (Addr × Obj)} {σ : St} {H : Hp} {s : Shared} {l b : Addr} {xs ys zs : List V}
theorem Inv.lset {its its' : List Value} {n : Nat} {f : Array Value → Array Value} {t' : Nat} (I : Inv X pins σ H s) (hH : H l = some (.lst xs))
    (e : s.heap.get? l = some { cls := .type "list", data := .seq its.toArray n }) (hf : f its.toArray = its'.toArray) (hv : Vals ys its') (hz : ys.length ≤ sizeLine) :
    Inv X pins σ (upd H l (.lst ys)) { s with heap := s.heap.update l (Obj.mapSeq f), toks := t' } := by
  have q := PySem.IsL.update e f
  rw [hf] at q
  refine I.write (x := l) (e := l) (by rw [hH]; exact trivial) (.inl rfl) (fun b' u hb hu => (Heap.get?_update_other s.heap (Obj.mapSeq f) (Ne.symm hb)).trans hu) ⟨_, q⟩ ?_
  exact ⟨hz, its', _, hv, q⟩
theorem Inv.lnew {its : List Value} {t' : Nat} (I : Inv X pins σ H s) (hv : Vals ys its) (hz : ys.length ≤ sizeLine) :
    Inv X pins σ (upd H s.heap.objs.size (.lst ys)) { s with heap := s.heap.push { cls := .type "list", data := .seq its.toArray }, toks := t' } :=
  I.laid (fun _ _ q => Heap.get?_push_of_some _ q) (Nat.le_refl _) ⟨hz, its, 0, hv, Heap.get?_push_size _ rfl⟩
theorem Inv.fresh (I : Inv X pins σ H s) : H s.heap.objs.size = none := I.hok.fresh (Nat.le_refl _)
theorem Inv.lstM (I : Inv X pins σ H s) (hH : H l = some (.lst xs)) : xs.length ≤ sizeLine ∧ ∃ (its : List Value) (n : Nat), Vals xs its ∧ xs.length = its.length ∧ s.heap.get? l = some { cls := .type "list", data := .seq its.toArray n } := by
  obtain ⟨z, its, n, r, e⟩ := I.hok l _ hH
  exact ⟨z, its, n, r, r.length, e⟩
theorem notLongL {n : Nat} (h : n ≤ sizeLine) : Builtin.List.listTooLong n = false := by
  unfold Builtin.List.listTooLong
  exact decide_eq_false (by omega)
end
section
variable {X : Cx}
def rAppend : V → List V → Hp → VK → Prop := fun x vs H Q => ∃ l xs y, x = .ref l ∧ vs = [y] ∧ H l = some (.lst xs) ∧ xs.length < sizeLine ∧ Q .non (upd H l (.lst (xs ++ [y])))
theorem mt_append : MtM X "list.append" rAppend := by
  intro pins s σ H x vs v us Q I rx rv h
  obtain ⟨l, xs, y, rfl, rfl, hH, hz, q⟩ := h
  cases rx
  obtain ⟨u, rfl, ru⟩ := rv.one
  obtain ⟨z, its, n, r, hl, e⟩ := I.lstM hH
  refine call_meets F.slot_list_append ⟨_, e, rfl⟩ F.entry_list_append (F.args_list_append_2 _ _) (PySem.list_append l its.toArray n u (by rw [List.size_toArray]; omega)) ⟨e, ?_⟩
  refine ⟨.non, _, I.lset (its' := its ++ [u]) hH e (by simp) (r.append (.cons ru .nil)) ?_, rfl, q⟩
  rw [List.length_append, List.length_singleton]
  omega
def rReverse : V → List V → Hp → VK → Prop := fun x vs H Q => ∃ l xs, x = .ref l ∧ vs = [] ∧ H l = some (.lst xs) ∧ Q .non (upd H l (.lst xs.reverse))
def rClear : V → List V → Hp → VK → Prop := fun x vs H Q => ∃ l xs, x = .ref l ∧ vs = [] ∧ H l = some (.lst xs) ∧ Q .non (upd H l (.lst []))
def rCat : R2 := fun x y H Q => ∃ l b xs zs, x = .ref l ∧ y = .ref b ∧ H l = some (.lst xs) ∧ H b = some (.lst zs) ∧ xs.length + zs.length ≤ sizeLine ∧ ∀ p, H p = none → Q (.ref p) (upd H p (.lst (xs ++ zs)))
theorem op_cat : OpR X (binaryOp .Add) rCat := by
  intro pins s σ H x y v u Q I rx ry h
  obtain ⟨l, b, xs, zs, rfl, rfl, hH, hB, hz, q⟩ := h
  cases rx
  cases ry
  obtain ⟨z, its, n, r, hl, e⟩ := I.lstM hH
  obtain ⟨z2, its2, n2, r2, hl2, e2⟩ := I.lstM hB
  refine PySem.P.add_list e e2 ?_ (by rw [List.size_toArray, List.size_toArray]; omega)
  have ea : its.toArray ++ its2.toArray = (its ++ its2).toArray := by simp
  rw [ea]
  exact ⟨.ref _, _, I.lnew (t' := s.toks) (r.append r2) (by rw [List.length_append]; omega), rfl, q _ I.fresh⟩
def rRep : R2 := fun x y H Q => ∃ l k xs, x = .ref l ∧ y = .int k ∧ H l = some (.lst xs) ∧ -(2 ^ 63) ≤ k ∧ k < 2 ^ 63 ∧ xs.length * k.toNat ≤ sizeLine ∧
  ∀ p, H p = none → Q (.ref p) (upd H p (.lst (List.replicate k.toNat xs).flatten))
theorem len_rep {α : Type} (xs : List α) (k : Nat) : (List.replicate k xs).flatten.length = k * xs.length := by
  induction k with
  | zero => simp
  | succ k ih => rw [List.replicate_succ, List.flatten_cons, List.length_append, ih, Nat.succ_mul, Nat.add_comm]
theorem op_rep : OpR X (binaryOp .Mult) rRep := by
  intro pins s σ H x y v u Q I rx ry h
  obtain ⟨l, k, xs, rfl, rfl, hH, h1, h2, hz, q⟩ := h
  cases rx
  obtain ⟨t, rfl⟩ := ry
  obtain ⟨z, its, n, r, hl, e⟩ := I.lstM hH
  have hlen : its.toArray.size * k.toNat ≤ sizeLine := by rw [List.size_toArray, ← hl]; exact hz
  have hcap : ¬ its.toArray.size * k.toNat > (2 ^ 63 - 1) / 8 := by
    have : (sizeLine : Nat) ≤ (2 ^ 63 - 1) / 8 := by decide
    omega
  have hfit : ¬ (!Builtin.List.listFitsIndex k) = true := by
    rw [fitsIndex_both h1 h2]
    exact Bool.false_ne_true
  have hlong : ¬ Builtin.List.listTooLong (its.toArray.size * k.toNat) = true := by
    rw [notLongL hlen]
    exact Bool.false_ne_true
  have hnew : List.foldl (fun x1 x2 => x1 ++ x2) #[] (List.replicate (if its.toArray.isEmpty = true then 0 else k.toNat) its.toArray) = (List.replicate k.toNat its).flatten.toArray := by
    have f0 : ∀ m : Nat, List.foldl (fun x1 x2 => x1 ++ x2) #[] (List.replicate m its.toArray) = (List.replicate m its).flatten.toArray := fun m => by
      have := foldl_rep its m []
      rw [List.nil_append] at this
      exact this
    rw [f0]
    cases its with
    | nil => simp
    | cons a r' => rw [if_neg (by simp)]
  refine wpAny_binaryOp_repeat_ref (T := "list") (U := "int") (by decide) ⟨_, e, rfl⟩ (fun s' => typeIs_int s' k t) noFill_list_mul F.fills_int_mul F.slot_int_rmul repeat_list F.slot_int_index.lookup
    (call_meets F.slot_int_rmul (typeIs_int s k t) F.entry_int_rmul (F.args_int_rmul_2 _ _) (int___rmul___int_list k t l its.toArray n)
      ⟨e, rfl, ⟨_, e, rfl⟩, call_meets F.slot_list_mul ⟨_, e, rfl⟩ F.entry_list_mul (F.args_list_mul_2 _ _) (AutoListH.list___mul___list_int_3 l its.toArray n k t hfit hcap hlong) ⟨e, ?_⟩⟩)
  rw [hnew]
  exact ⟨.ref _, _, I.lnew (t' := s.toks) (r.rep k.toNat) (by rw [len_rep, Nat.mul_comm]; exact hz), rfl, q _ I.fresh⟩
end
section
variable {prog : Program} {w : World} {A : Around} {E : Value → Shared → Prop} {s : Shared}
end
section
variable {X : Cx}
end
end L2
namespace Att
open PySem PySem.W PySem.Calls PyProof.Rows
theorem ints_of_wellAll {P : Params} {h : Heap} : ∀ (ns : List Int) (vs : List Value), WellAll P h vs (ns.map WData.int) → IntsAre vs ns := by
  intro ns
  induction ns with
  | nil =>
    intro vs w
    rw [List.map_nil] at w
    cases w
    exact .nil
  | cons n ns ih =>
    intro vs w
    rw [List.map_cons] at w
    cases w with
    | cons a b =>
      cases a
      exact .cons _ _ (ih _ b)
theorem script_of {l : OpenLaw} {n : Nat} (hn : l.most = some n) {P : Params} {h : Heap} {args : List WData} {vals : List Value}
    (hpre : l.row.toRowW.claim.pre args = true) (hwl : WellAll P h vals args) :
    ∃ a vs ns, vals = [Value.ref a] ∧ args = [WData.list (ns.map WData.int)] ∧ h.get? a = some { cls := .type "list", data := .seq vs.toArray } ∧ IntsAre vs ns ∧ ns.length ≤ n := by
  have hsh : WShape.hasAll [] args [.list .int] = true := (pre_splitW hpre).1
  have hc : l.pre.holds [] { args := args } = true := (pre_splitW hpre).2
  obtain ⟨d, r, rfl, h1, h2⟩ := hasAllW_cons hsh
  obtain rfl := hasAllW_nil h2
  obtain ⟨xs, rfl, h3⟩ := hasW_list h1
  obtain ⟨ns, rfl⟩ := items_int h3
  have hlen : ns.length ≤ n := by
    unfold OpenLaw.pre at hc
    have h4 : (WTm.not (.lt (.lit (.int (n : Int))) (.len (.arg 0)))).holds [] { args := [.list (ns.map .int)] } = true := by
      have h4 := (holds_andW hc).1
      rw [hn] at h4
      exact h4
    have h5 := condW_of h4 (w_not (w_lt w_lit (w_len_list (w_arg rfl))))
    rw [List.length_map] at h5
    refine Nat.le_of_not_lt fun q => ?_
    have q' : (n : Int) < ((ns.length : Nat) : Int) := by omega
    first
      | (rw [decide_eq_true q'] at h5; exact absurd h5 (by decide))
      | (simp at h5; omega)
  cases hwl with
  | cons w1 w2 =>
    cases w2
    cases w1 with
    | list ho hall => exact ⟨_, _, ns, rfl, rfl, ho, ints_of_wellAll ns _ hall, hlen⟩
theorem post_true (l : OpenLaw) (args : List WData) : l.row.toRowW.claim.post args (.bool true) args = true :=
  postW_of (r := l.row.toRowW) (X := (true == true))
    (show WShape.has [] (.bool true) .bool = true by first | rfl | decide | simp [WShape.has, WShape.arms, WShape.armsAll])
    (show (WTm.eq .res (.lit (.bool true))).value [] { args := args, res := some (.bool true), after := args } = some (.bool (true == true)) from w_eq_bool (w_res rfl) w_lit) rfl
theorem attach_call {l : OpenLaw} {n : Nat} {q : Program} {loose : List Str} {XP : (Str → Option Value) → Heap → Prop} {YP : World → Heap → Prop} {d : DefRec}
    (hn : l.most = some n) (hdf : d.params.defaults = [])
    (call : ∀ (w : World) (s₀ s₁ : Shared) (mg mb : Str → Option Value) (fa : Addr) (o : Obj) (pm cd doc : Value) (a : Addr) (vs : List Value) (ns : List Int),
      Ground q loose [] XP w s₀ mg mb s₁.heap → YP w s₁.heap →
      s₁.heap.get? fa = some o → o.data = .func (docDef d.name d.params d.body d.scope pm cd doc) → s₁.heap.CodeRec cd d.name → mg d.name = some (.ref fa) →
      s₁.heap.get? a = some { cls := .type "list", data := .seq vs.toArray } → IntsAre vs ns → ns.length ≤ n → s₁.gens = #[] →
      codeAny (model l.prog w) callerA (.call (.ref fa) ⟨[.ref a], []⟩) (fun r s' => r = .ok (.ret (.bool true)) ∧ OldK s₁.heap s'.heap ∧ s'.os = s₁.os ∧ AllBare s'.gens) s₁) :
    WalkO q loose XP YP l.row.toRowW d [] (fun f vs => PySem.call f vs) := by
  intro w s₀ s₁ mg mb G Y fa o pm cd doc dV kV ho hd hcd hD hmg hg args vals as hpre hlay hrd hwl hlo
  obtain rfl : dV = .none := Dflts.none hD hdf
  obtain rfl : kV = .none := Dflts.noKw hD
  obtain ⟨a, vs, ns, rfl, rfl, hobj, hints, hlen⟩ := script_of hn hpre hwl
  refine enter_call (codeAny_mono (call w s₀ s₁ mg mb fa o pm cd doc a vs ns G Y ho (fd_plain hd) hcd hmg hobj hints hlen hg) fun r s' hq => ?_)
  obtain ⟨rfl, h2, h3, h4⟩ := hq
  exact ⟨.inl ⟨.bool true, .bool true, [], rfl, fun _ => rfl, .bool true, post_true l _, fun _ => ⟨List.Pairwise.nil, fun _ hm => (nomatch hm)⟩⟩, h2, h3, h4⟩
section
variable {prog : Program} {w : World} {A : Around} {E : Value → Shared → Prop} {s : Shared} {K : Frag}
end
end Att
namespace L2
open PySem PySem.Spec PyProof.Rows
theorem vals_ints : ∀ {vs : List Value} {ns : List Int}, IntsAre vs ns → Vals (ns.map V.int) vs
  | _, _, .nil => .nil
  | _, _, .cons n t h => .cons ⟨t, rfl⟩ (vals_ints h)
def Only (H : Hp) : Prop := ∀ b, H b = none ∨ ∃ o xs, H b = some (.frz o (.lst xs))
theorem law_call {P : Program} {w : World} {K : PySem.W.Frag} {mg mb : Str → Option Value} {CX : CXT} {k : Nat} {fa a : Addr} {fd : FuncData} {x : Str} {sp : Sp} {s₁ : Shared} {vs : List Value} {ns : List Int}
    (KX : K.In s₁.heap) (hns : s₁.heap.Ns mainGlobals mg) (hb : s₁.heap.Ns builtinsNs mb) (hbb : ∀ x : Str, x ≠ "__name__" → mb x = bootBuiltins x) (hlim : s₁.heap.NoLimit) (hg : s₁.gens = #[])
    (ha : s₁.heap.get? a = some { cls := .type "list", data := .seq vs.toArray }) (hi : IntsAre vs ns) (hl : ns.length ≤ sizeLine) (hr : Room k callerA)
    (F : ∀ base : Heap, K.In base → base.Ns mainGlobals mg → FnOk P w K mg base CX k fa fd [x] sp) (hbind : ∀ (s : Shared) (u : Value), BindsTo s fd ⟨[u], []⟩ [(x, u)])
    (hsp : ∀ H : Hp, Only H → SqL K H a (ns.map V.int) → sp [.ref a] H (fun v _ => v = .bl true) fun _ _ _ => False)
    (hCX : ∀ H e s', CX [] H s₁ (fun _ _ _ => False) e s' → False) :
    codeAny (model P w) callerA (.call (.ref fa) ⟨[.ref a], []⟩) (fun r s' => r = .ok (.ret (.bool true)) ∧ OldK s₁.heap s'.heap ∧ s'.os = s₁.os ∧ AllBare s'.gens) s₁ := by
  have rv := vals_ints hi
  have lenV := hi.length
  -- from an abstract heap in which nothing but the script may be tracked
  have core : ∀ H : Hp, Only H → SqL K H a (ns.map V.int) → HOk P w H s₁.heap → (∀ b, H b ≠ none → b = a) → (H a ≠ none → K.lookup a = none) →
      codeAny (model P w) callerA (.call (.ref fa) ⟨[.ref a], []⟩) (fun r s' => r = .ok (.ret (.bool true)) ∧ OldK s₁.heap s'.heap ∧ s'.os = s₁.os ∧ AllBare s'.gens) s₁ := by
    intro H hO hS hok hA hK
    have base_of : ∀ {b : Addr} {o : Obj}, s₁.heap.get? b = some o → H b = none → (hidT s₁.heap H).get? b = some o := fun e n => hidT_get e n
    have noA : ∀ {b : Addr} {o : Obj} {es : Array DictEntry} {ep : Nat}, s₁.heap.get? b = some o → o.data = .dict es ep → H b = none := fun {b o es ep} e d => by
      cases q : H b with
      | none => rfl
      | some u =>
        have e' : b = a := hA b (by rw [q]; simp)
        subst e'
        rw [ha] at e; cases e
        have d' : Data.seq vs.toArray _ = Data.dict es ep := d
        cases d'
    have nsK : ∀ {b : Addr} {m : Str → Option Value}, s₁.heap.Ns b m → (hidT s₁.heap H).Ns b m := fun {b m} ⟨o, es, ep, e, d, r⟩ => ⟨o, es, ep, base_of e (noA e d), d, r⟩
    have hKb : K.In (hidT s₁.heap H) := fun b o e => base_of (KX b o e) (by
      cases q : H b with
      | none => rfl
      | some u =>
        have e' : b = a := hA b (by rw [q]; simp)
        subst e'
        rw [hK (by rw [q]; simp)] at e; cases e)
    have hM : Mod K mg (hidT s₁.heap H) := ⟨hKb, nsK hns, ⟨mb, nsK hb, hbb⟩, let ⟨mc, h1, h2⟩ := hlim; ⟨mc, nsK h1, h2⟩⟩
    have e0 : Env0 P w K mg (hidT s₁.heap H) callerA [] s₁ H := ⟨rfl, hM, fun b o e => of_hidT e, Nat.le_of_eq (hidT_size _ _), trivial, fun b hb => absurd (show b ∈ ([] : List Addr) from hb) (by simp), hok, .of_eq hg⟩
    refine codeAny_mono ((F _ hKb (nsK hns)).run callerA [] s₁ H ⟨[.ref a], []⟩ [.ref a] [.ref a] _ _ hr e0 (hbind s₁ (.ref a)) (.cons rfl .nil) (hsp H hO hS)) fun r s' h => ?_
    cases r with
    | error e => exact (hCX H e s' h).elim
    | ok fl =>
      cases fl with
      | next => exact False.elim h
      | brk => exact False.elim h
      | cont => exact False.elim h
      | ret u =>
        obtain ⟨v, H', os, bare, un, hok', r', q⟩ := h
        have q' : v = .bl true := q
        subst q'
        obtain rfl : u = Value.bool true := r'
        refine ⟨rfl, OldK.of_keep fun b o e => ?_, os, bare⟩
        cases q : H b with
        | none => exact un.keep b o e q (by intro z; exact absurd (show b ∈ ([] : List Addr) from z) (by simp)) (by simp)
        | some u =>
          rcases hO b with z | ⟨ob, xs, z⟩
          · rw [q] at z; cases z
          · have z2 := un.frzs b ob _ z
            obtain ⟨e1, _⟩ := hok b _ z
            obtain ⟨e2, _⟩ := hok' b _ z2
            rw [e] at e1; cases e1
            exact e2
  cases hk : K.lookup a with
  | some o =>
    -- the script is one of the module's own objects
    have e := KX a o hk
    rw [ha] at e
    cases e
    refine core (fun _ => none) (fun _ => .inl rfl) (.inr ⟨_, vs.toArray, _, hk, rfl, rfl, rfl, by rw [List.size_toArray, lenV]; exact hl, by simpa using rv⟩) (fun b u z => by have z' : (none : Option HO) = some u := z; cases z') (fun b z => absurd rfl z) fun z => absurd rfl z
  | none =>
    refine core (fun b => if b = a then some (.frz { cls := .type "list", data := .seq vs.toArray } (.lst (ns.map V.int))) else none) (fun b => ?_) (.inl (.inr ⟨{ cls := .type "list", data := .seq vs.toArray }, if_pos rfl⟩)) (fun b u z => ?_) (fun b z => ?_) fun _ => hk
    · by_cases hb : b = a
      · exact .inr ⟨_, _, if_pos hb⟩
      · exact .inl (if_neg hb)
    · by_cases hb : b = a
      · have z' := (if_pos hb).symm.trans z
        cases z'
        subst hb
        exact ⟨ha, by rw [List.length_map]; exact hl, vs, _, rv, ha⟩
      · have z' := (if_neg hb).symm.trans z
        cases z'
    · by_cases hb : b = a
      · exact hb
      · exact absurd (if_neg hb) z
end L2
namespace L2
open PySem PySem.Spec PyProof.Rows
abbrev KOf {K : PySem.W.Frag} {h : Heap} (_ : K.In h) : PySem.W.Frag := K
theorem walk_of {l : PySem.W.OpenLaw} {n k : Nat} {q : Program} {loose : List Str} {XP : (Str → Option Value) → Heap → Prop} {YP : World → Heap → Prop} {d : DefRec} {K : Params → PySem.W.Frag} {CX : World → CXT} {sp : World → Sp} {x : Str}
    (hn : l.most = some n) (hn2 : n ≤ sizeLine) (hdf : d.params.defaults = []) (hr : Room k callerA)
    (hY : ∀ (w : World) (h : Heap), YP w h → (K w.params).In h)
    (F : ∀ (w : World) (mg : Str → Option Value) (fa : Addr) (h : Heap), (K w.params).In h → h.Ns mainGlobals mg → mg d.name = some (.ref fa) →
      ∃ fd : FuncData, (∀ (s : Shared) (u : Value), BindsTo s fd ⟨[u], []⟩ [(x, u)]) ∧
        ∀ base : Heap, (K w.params).In base → base.Ns mainGlobals mg → FnOk l.prog w (K w.params) mg base (CX w) k fa fd [x] (sp w))
    (hsp : ∀ (w : World) (H : Hp) (a : Addr) (ns : List Int), ns.length ≤ n → Only H → SqL (K w.params) H a (ns.map V.int) → sp w [.ref a] H (fun v _ => v = .bl true) fun _ _ _ => False)
    (hCX : ∀ (w : World) (H : Hp) (s : Shared) (e : Value) (s' : Shared), CX w [] H s (fun _ _ _ => False) e s' → False) :
    PySem.W.WalkO q loose XP YP l.row.toRowW d [] (fun f vs => PySem.call f vs) := by
  refine Att.attach_call hn hdf fun w s₀ s₁ mg mb fa o pm cd doc a vs ns G Y ho hd hcd hmg hobj hints hlen hg => ?_
  have KX := hY w _ Y
  obtain ⟨fd, hb, hF⟩ := F w mg fa _ KX G.T.g hmg
  exact law_call KX G.T.g G.T.b G.T.builtins G.T.nolimit hg hobj hints (Nat.le_trans hlen hn2) hr hF hb (fun H hO hS => hsp w H a ns hlen hO hS) fun H e s' => hCX w H s₁ e s'
end L2
/- THE LAST THEOREM (shape; LID, My.* are yours):
   My.Adr: a structure of the addresses that your layer names (classes, functions); My.Txt K t: a structure (Prop) of the equations over K;
   My.txt_mk : {K} {implicit addresses ..} (e1 : nsIn K mainGlobals "law" = some (some (.ref f))) (e2 : K.lookup f = some ⟨oc, od, .func (fnOf "law" "law" params body scope dV kV doc pm an cdv ct), sl⟩) (e3 : codeIn K cdv "law" = true) .. : ∃ t, My.Txt K t
set_option maxRecDepth 100000 in
set_option maxHeartbeats 0 in
theorem PySem.Challenge.cw_LID_holds : PySem.Challenge.rw_LID.Holds := by
  w_on; o_law; k_head; (case hw => w_witness2)
  k_fill
  refine L2.walk_of (l := PySem.Challenge.rw_LID) (n := 63) (k := 40) (x := "script") (CX := fun w => ..) (sp := fun _ => My.sp_law) rfl (by decide) rfl ⟨rfl, by decide, by decide⟩ (fun w h Y => PySem.W.kIn_of Y) ?F ?S ?C
  case F =>
    intro w mg fa h KX G hmg
    have T : ∃ t, My.Txt (L2.KOf KX) t := by
      dsimp only [L2.KOf]                          -- K must stand as «<heap const> w.params» for k_is
      refine' My.txt_mk ?e1 ?e2 ?e3 ..
      (case e1 => PySem.W.k_is)                    -- in the order: a name -> its address -> its object -> its parts
      (case e2 => PySem.W.k_is)
      ..
    obtain ⟨t, T⟩ := T
    have e0 := hmg.symm.trans (PySem.W.mg_of KX G T.law)
    cases e0                                       -- fa is the law's own address
    exact ⟨_, fun s u => .of_eq rfl, fun base kb nb => My.law_fn T kb nb⟩     -- if «.of_eq rfl» comes too early: refine' ⟨_, ?b, fun base kb nb => My.law_fn T kb nb⟩; exact fun s u => .of_eq rfl
  case S => exact fun w H a ns hl hO hS => ..
  case C => exact ..
(the tactic k_is has no namespace: write k_is) -/
namespace L2
open PySem PySem.Spec PyProof.Rows
def defArgs (s : Stmt) : Arguments := match s with
  | .FunctionDef _ a _ _ _ _ _ _ _ _ => a
  | _ => { posonlyargs := [], args := [], vararg := none, kwonlyargs := [], kw_defaults := [], kwarg := none, defaults := [] }
def defBody (s : Stmt) : List Stmt := match s with
  | .FunctionDef _ _ b _ _ _ _ _ _ _ => b
  | _ => []
def defScope (s : Stmt) : Scope := match s with
  | .FunctionDef _ _ _ _ _ _ sc _ _ _ => sc
  | _ => { kind := .function, names := [], isGenerator := false, isCoroutine := false }
abbrev CX0 : CXT := fun _ _ _ _ _ _ => False
abbrev E0 : XK := fun _ _ _ => False
structure Fun (K : PySem.W.Frag) (x qual : Str) (st : Stmt) (f : Addr) (fd : FuncData) : Prop where
  ex : ∃ (oc : Value) (od : Option Addr) (kV doc pm : Value) (an : Option Addr) (cdv ct : Value) (osl : Array (Option Value)),
    fd = PySem.W.fnOf x qual (defArgs st) (defBody st) (defScope st) .none kV doc pm an cdv ct ∧ K.lookup f = some ⟨oc, od, .func fd, osl⟩ ∧ PySem.W.codeIn K cdv qual = true
  kp : PySem.W.keepIn K (.ref f) = true
section
variable {P : Program} {w : World} {K : PySem.W.Frag} {mg : Str → Option Value} {base : Heap}
theorem Fun.ok {x qual : Str} {st : Stmt} {f : Addr} {fd : FuncData} {N ps : List Str} {k : Nat} {sp : Sp} (F : Fun K x qual st f fd) (S : FnScope N ps (defScope st)) (len : ∀ vs H Q E, sp vs H Q E → vs.length = ps.length)
    (hbody : ∀ (cdv : Value) (A : Around) (outer : List Env) (s : Shared) (H : Hp) (vs : List V) (Q : VK) (E : XK), Room k (A.deeper (envOfC qual (defScope st) s.heap.objs.size f cdv)) → sp vs H Q E →
      ∃ t, PSs (cxOf CX0 P w K mg base N qual (defScope st) f cdv A outer s H E).nox (defBody st) t ∧ t { nx := fun _ H' => Q .non H', rt := Q } (start N vs) H) : FnOk P w K mg base CX0 (k + 1) f fd ps sp := by
  obtain ⟨oc, od, kV, doc, pm, an, cdv, ct, osl, rfl, lk, hcd⟩ := F.ex
  refine fn_of lk hcd S len fun A outer s H vs Q E hr hsp => ?_
  obtain ⟨t, h, q⟩ := hbody cdv A outer s H vs Q E hr hsp
  exact ⟨t, h.nox, q⟩
theorem Fun.binds {x qual : Str} {st : Stmt} {f : Addr} {fd : FuncData} {ps : List Str} (F : Fun K x qual st f fd)
    (h : ∀ (kV doc pm : Value) (an : Option Addr) (cdv ct : Value) (us : List Value), us.length = ps.length → bindArgs (PySem.W.fnOf x qual (defArgs st) (defBody st) (defScope st) .none kV doc pm an cdv ct) ⟨us, []⟩ = pure (ps.zip us)) : Binds K fd ps [] := by
  obtain ⟨oc, od, kV, doc, pm, an, cdv, ct, osl, rfl, lk, hcd⟩ := F.ex
  exact .all (h kV doc pm an cdv ct)
theorem fun_mk {x qual : Str} {st : Stmt} {f : Addr} {oc : Value} {od an : Option Addr} {osl : Array (Option Value)} {kV doc pm cdv ct : Value} (l : K.lookup f = some ⟨oc, od, .func (PySem.W.fnOf x qual (defArgs st) (defBody st) (defScope st) .none kV doc pm an cdv ct), osl⟩)
    (c : PySem.W.codeIn K cdv qual = true) (k : PySem.W.keepIn K (.ref f) = true) : Fun K x qual st f (PySem.W.fnOf x qual (defArgs st) (defBody st) (defScope st) .none kV doc pm an cdv ct) := ⟨⟨oc, od, kV, doc, pm, an, cdv, ct, osl, rfl, l, c⟩, k⟩
end
theorem small1000 {n : Nat} (h : n ≤ 1000) : n < sizeLine := Nat.lt_of_le_of_lt h (by decide)
section
variable {X : Cx}
theorem pv (i : Nat) {x : Str} {pos : Pos} (hN : X.N[i]? = some x := by rfl) (hv : Vis X.env.scope x := by first | exact Or.inl rfl | exact Or.inr (Or.inl rfl) | exact Or.inr (Or.inr rfl)) (hd : (x == ("__debug__" : Str)) = false := by decide)
    (hcd : (x == ("__classdict__" : Str)) = false := by decide) : PE X (.Name x pos) (tVar i) := pe_var hN hv hd hcd
end
def Same (H H' : Hp) : Prop := ∀ b o, H b = some o → H' b = some o
theorem Same.refl (H : Hp) : Same H H := fun _ _ h => h
theorem Same.trans {H H1 H2 : Hp} (a : Same H H1) (b : Same H1 H2) : Same H H2 := fun c o h => b c o (a c o h)
theorem Same.free {H H' : Hp} (e : Same H H') {l : Addr} (h : H' l = Option.none) : H l = Option.none := by
  cases q : H l with
  | none => rfl
  | some o =>
    rw [e l o q] at h
    cases h
theorem Same.seq {K : PySem.W.Frag} {H H' : Hp} {a : Addr} {xs : List V} (e : Same H H') (h : SqL K H a xs) : SqL K H' a xs := by
  rcases h with (h | ⟨o, h⟩) | h
  · exact .inl (.inl (e _ _ h))
  · exact .inl (.inr ⟨o, e _ _ h⟩)
  · exact .inr h
end L2
namespace L2
open PySem PySem.Spec PyProof.Rows
def Dic (h : Heap) (e : Addr) (dv : Option Addr) : Prop := ∃ ob ws, h.get? e = some ob ∧ ob.dict = dv ∧ ob.data = .fields ws ∧ ws[2]? = some Value.none
structure Rest (fs : List Addr) (x : Addr) (ex : Option Addr) (h h' : Heap) : Prop where
  out : ∀ b o, h.get? b = some o → b ≠ x → some b ≠ ex → b ∉ fs → h'.get? b = some o
  sl : ∀ b o, h.get? b = some o → b ≠ x → some b ≠ ex → ∃ z, h'.get? b = some { o with slots := z }
section
variable {M : Model} {A : Around} {E : Value → Shared → Prop} {s : Shared} {B : Heap} {env : Env} {outer : List Env} {L e : Addr}
theorem dict_mapF (f : Array Value → Array Value) (o : Obj) : (Obj.mapFields f o).dict = o.dict := by
  obtain ⟨c, d, dt, sl⟩ := o
  cases dt <;> rfl
theorem entry_made {ob : Obj} {ws : Array Value} {hd : Value} {had : Bool} {Q : Unit → Shared → Prop} (gf : A.frames = some (env :: outer)) (ff : s.heap.FunFrames B (env :: outer)) (ge : env.frame = some L)
    (o1 : s.heap.get? e = some ob) (o2 : ob.data = .fields ws) (o3 : 1 < ws.size)
    (k : ∀ (h' : Heap) (T : Addr) (oT : Obj) (ts : Array Value), h'.get? e = some (Obj.mapFields (·.setIfInBounds 1 (.ref T)) ob) → T ≠ e → s.heap.get? T = none → h'.get? T = some oT → oT.data = .fields ts → ts[3]? = some (rawInt L) →
      Rest (frs (env :: outer)) e none s.heap h' → Q () { s with heap := h' }) :
    wpAny M A (do let a ← frameOf env; let pl ← entryPlaceOf L had; let b ← EntryCells.newEntry hd a .none (rawInt L) .none pl; setField (.ref e) 1 b) Q E s := by
  have en : e ∉ frs (env :: outer) := fun m => by
    obtain ⟨_, o, q, n⟩ := ff.mem m
    rw [o1] at q; cases q
    exact n ws o2
  refine wpAny_bind (wpAny_frameOf_fun gf ff ge fun h1 so => wpAny_bind (wpAny_entryPlaceOf fun pl place => ?_))
  unfold EntryCells.newEntry newFields
  refine wpAny_bind (wpAny_newObj_type ?_ (place.sizeOk5 _ _ _ _ _))
  have q1 : h1.get? e = some ob := (so.2.1 e en).trans o1
  have q2 := fun oT => Heap.get?_push_of_some (h := h1) oT q1
  refine wpAny_setField (q2 _) o2 o3 ?_
  refine k _ h1.objs.size _ _ ?_ (Nat.ne_of_gt (Heap.lt_size q1)) (Heap.get?_none_of_le (by rw [so.1]; exact Nat.le_refl _)) ((Heap.get?_update_other _ _ (Nat.ne_of_lt (Heap.lt_size q1))).trans (Heap.get?_push_size h1 rfl)) rfl ?_ ?_
  · exact Heap.get?_update_self _ (q2 _) (Obj.isFreed_of_fields (Obj.data_mapFields o2 _))
  · rcases place with rfl | ⟨_, _, _, _, _, _, _, rfl⟩ <;> simp
  · refine ⟨fun b o q n _ nf => ?_, fun b o q n _ => ?_⟩
    · exact (Heap.get?_update_other _ _ (Ne.symm n)).trans (Heap.get?_push_of_some _ ((so.2.1 b nf).trans q))
    · obtain ⟨z, y⟩ := so.2.2 b o q
      exact ⟨z, (Heap.get?_update_other _ _ (Ne.symm n)).trans (Heap.get?_push_of_some _ y)⟩
theorem rest_fly {h h' : Heap} {ex : Option Addr} {l : List Env} (st : B.StaysIn h) (be : B.get? e = none) (bx : ∀ t, ex = some t → B.get? t = none) (ff : h.FunFrames B l) (hx : ∀ t o, ex = some t → h.get? t = some o → ∃ ts, o.data = .fields ts)
    (he : ∀ o, h.get? e = some o → ∃ ts, o.data = .fields ts) (r : Rest (frs l) e ex h h') : B.StaysIn h' ∧ h'.FunFrames B l ∧ h.UpToSlots h' := by
  have up : h.UpToSlots h' := fun b o q nd => r.sl b o q (fun z => by subst z; obtain ⟨ts, y⟩ := he o q; exact nd ts y) fun z => by obtain ⟨ts, y⟩ := hx b o z.symm q; exact nd ts y
  refine ⟨fun b o q => r.out b o (st b o q) (fun z => by rw [z, be] at q; cases q) (fun z => by rw [bx b z.symm] at q; cases q) (fun m => by rw [(ff.mem m).1] at q; cases q), ff.of_keeps fun b o q nd => ?_, up⟩
  obtain ⟨z, y⟩ := up b o q nd
  exact ⟨_, y, rfl⟩
theorem note_first {ob : Obj} {ws : Array Value} {a0 : Value} {Q : Unit → Shared → Prop} (gf : A.frames = some (env :: outer)) (ge : env.frame = some L) (ff : s.heap.FunFrames B (env :: outer)) (st : B.StaysIn s.heap) (be : B.get? e = none)
    (o1 : s.heap.get? e = some ob) (o2 : ob.data = .fields ws) (o3 : ws[1]? = some .none) (o4 : ws[0]? = some a0) (o5 : ws[2]? = some Value.none)
    (k : ∀ h', Heap.HeldW B (env :: outer) e ob.cls a0 L h' → Dic h' e ob.dict → s.heap.UpToSlots h' → Q () { s with heap := h' }) : wpAny M A (noteFrame (.ref e) env) Q E s := by
  have z1 : 1 < ws.size := (Array.getElem?_eq_some_iff.mp o3).1
  unfold noteFrame
  simp only [ge]
  refine wpAny_bind (wpAny_field o1 o2 o3 ?_)
  rw [if_neg (by decide)]
  refine entry_made gf ff ge o1 o2 z1 fun h' T oT ts e1 e2 e3 e4 e5 e6 r => ?_
  obtain ⟨k1, k2, k3⟩ := rest_fly (ex := none) st be (by intro _ z; cases z) ff (by intro _ _ z; cases z) (fun o q => by rw [o1] at q; cases q; exact ⟨ws, o2⟩) r
  refine k h' ⟨k1, be, k2, _, _, T, oT, ts, e1, ⟨Obj.cls_mapFields _ _, ?_⟩, Obj.data_mapFields o2 _, by simp [z1], ?_, e2, e4, e5, e6⟩ ⟨_, _, e1, dict_mapF _ _, Obj.data_mapFields o2 _, by rw [Array.getElem?_setIfInBounds_ne (by decide)]; exact o5⟩ k3
  · rw [Array.getElem?_setIfInBounds_ne (by decide)]; exact o4
  · cases q : B.get? T with
    | none => rfl
    | some o => rw [st T o q] at e3; cases e3
theorem note_next {cls a0 : Value} {dv : Option Addr} {Q : Unit → Shared → Prop} (gf : A.frames = some (env :: outer)) (ge : env.frame = some L) (fl : Heap.FlyingW B (env :: outer) e cls a0 s.heap) (dc : Dic s.heap e dv)
    (k : ∀ h', Heap.HeldW B (env :: outer) e cls a0 L h' → Dic h' e dv → s.heap.UpToSlots h' → Q () { s with heap := h' }) : wpAny M A (noteFrame (.ref e) env) Q E s := by
  obtain ⟨st, be, ff, ob, ws, T, oT, ts, o1, ⟨rfl, o4⟩, o2, o3, bT, nT, t1, t2, t3⟩ := fl
  obtain ⟨ob', ws', q, rfl, d5, o5⟩ := dc
  rw [o1] at q; cases q
  rw [o2] at d5; cases d5
  have z1 : 1 < ws.size := (Array.getElem?_eq_some_iff.mp o3).1
  unfold noteFrame
  simp only [ge]
  refine wpAny_bind (wpAny_field o1 o2 o3 ?_)
  rw [if_pos (by simp)]
  refine wpAny_bind (wpAny_field t1 t2 t3 ?_)
  rw [if_neg (by simp [rawInt])]
  refine wpAny_bind (wpAny_setField t1 t2 (Array.getElem?_eq_some_iff.mp t3).1 ?_)
  have r0 : Rest (frs (env :: outer)) e (some T) s.heap (s.heap.update T (Obj.mapFields (·.setIfInBounds 3 Value.none))) :=
    ⟨fun b o q _ n _ => (Heap.get?_update_other _ _ fun z => n (by rw [z])).trans q, fun b o q _ n => ⟨o.slots, (Heap.get?_update_other _ _ fun z => n (by rw [z])).trans q⟩⟩
  obtain ⟨s1, s2, s3⟩ := rest_fly st be (fun t z => by cases z; exact bT) ff (fun t o z q => by cases z; rw [t1] at q; cases q; exact ⟨ts, t2⟩) (fun o q => by rw [o1] at q; cases q; exact ⟨ws, o2⟩) r0
  have o1' : (s.heap.update T (Obj.mapFields (·.setIfInBounds 3 Value.none))).get? e = some ob := (Heap.get?_update_other _ _ nT).trans o1
  refine entry_made (s := { s with heap := _ }) gf s2 ge o1' o2 z1 fun h' T' oT' ts' e1 e2 e3 e4 e5 e6 r => ?_
  obtain ⟨k1, k2, k3⟩ := rest_fly (ex := none) s1 be (by intro _ z; cases z) s2 (by intro _ _ z; cases z) (fun o q => by have := o1'.symm.trans q; cases this; exact ⟨ws, o2⟩) r
  refine k h' ⟨k1, be, k2, _, _, T', oT', ts', e1, ⟨Obj.cls_mapFields _ _, ?_⟩, Obj.data_mapFields o2 _, by simp [z1], ?_, e2, e4, e5, e6⟩ ⟨_, _, e1, dict_mapF _ _, Obj.data_mapFields o2 _, by rw [Array.getElem?_setIfInBounds_ne (by decide)]; exact o5⟩ (s3.trans k3)
  · rw [Array.getElem?_setIfInBounds_ne (by decide)]; exact o4
  · cases q : B.get? T' with
    | none => rfl
    | some o => have := (s1 T' o q).symm.trans e3; cases this
theorem lands_dic {l : List Env} {cls a0 v : Value} {dv : Option Addr} {Q : Unit → Shared → Prop} (fl : B.StaysIn s.heap ∧ B.get? e = none ∧ s.heap.FunFrames B l ∧ s.heap.TracedAtW B e cls a0 v) (dc : Dic s.heap e dv)
    (k : ∀ h', Heap.FlyingW B l e cls a0 h' → Dic h' e dv → s.heap.UpToSlots h' → Q () { s with heap := h' }) : wpAny M A (setFlight (.ref e) none) Q E s := by
  obtain ⟨st, be, ff, ob, ws, T, oT, ts, o1, oc, o2, o3, bT, nT, t1, t2, t3⟩ := fl
  have z3 : 3 < ts.size := (Array.getElem?_eq_some_iff.mp t3).1
  unfold setFlight
  refine wpAny_bind (wpAny_field o1 o2 o3 ?_)
  rw [if_pos (by simp)]
  refine wpAny_setField t1 t2 z3 ?_
  have r0 : Rest (frs l) e (some T) s.heap (s.heap.update T (Obj.mapFields (·.setIfInBounds 3 ((none : Option Addr).elim Value.none fun f => rawInt f)))) :=
    ⟨fun b o q _ n _ => (Heap.get?_update_other _ _ fun z => n (by rw [z])).trans q, fun b o q _ n => ⟨o.slots, (Heap.get?_update_other _ _ fun z => n (by rw [z])).trans q⟩⟩
  obtain ⟨s1, s2, s3⟩ := rest_fly st be (fun t z => by cases z; exact bT) ff (fun t o z q => by cases z; rw [t1] at q; cases q; exact ⟨ts, t2⟩) (fun o q => by rw [o1] at q; cases q; exact ⟨ws, o2⟩) r0
  have o1' := (Heap.get?_update_other s.heap (Obj.mapFields (·.setIfInBounds 3 ((none : Option Addr).elim Value.none fun f => rawInt f))) nT).trans o1
  refine k _ ⟨s1, be, s2, ob, ws, T, _, _, o1', oc, o2, o3, bT, nT, Heap.get?_update_self _ t1 (Obj.isFreed_of_fields (Obj.data_mapFields t2 _)), Obj.data_mapFields t2 _, by simp [z3]⟩ ?_ s3
  obtain ⟨ob', ws', q, d, d5, o5⟩ := dc
  rw [o1] at q; cases q
  exact ⟨ob, ws', o1', d, d5, o5⟩
theorem leaves_next {cls a0 : Value} {dv : Option Addr} {Q : Unit → Shared → Prop} (gf : A.frames = some (env :: outer)) (ge : env.frame = some L) (fl : Heap.FlyingW B (env :: outer) e cls a0 s.heap) (dc : Dic s.heap e dv)
    (k : ∀ h', Heap.FlyingW B outer e cls a0 h' → Dic h' e dv → s.heap.UpToSlots h' → Q () { s with heap := h' }) : wpAny M A (leaving env (.ref e)) Q E s := by
  unfold leaving
  refine wpAny_bind (note_next gf ge fl dc fun h1 x1 d1 u1 => lands_dic x1 d1 fun h2 x2 d2 u2 => ?_)
  obtain ⟨y1, y2, ⟨_, _, y3⟩, y4⟩ := x2
  exact k h2 ⟨y1, y2, y3, y4⟩ d2 (u1.trans u2)
theorem leaves_first {ob : Obj} {ws : Array Value} {a0 : Value} {Q : Unit → Shared → Prop} (gf : A.frames = some (env :: outer)) (ge : env.frame = some L) (ff : s.heap.FunFrames B (env :: outer)) (st : B.StaysIn s.heap) (be : B.get? e = none)
    (o1 : s.heap.get? e = some ob) (o2 : ob.data = .fields ws) (o3 : ws[1]? = some .none) (o4 : ws[0]? = some a0) (o5 : ws[2]? = some Value.none)
    (k : ∀ h', Heap.FlyingW B outer e ob.cls a0 h' → Dic h' e ob.dict → s.heap.UpToSlots h' → Q () { s with heap := h' }) : wpAny M A (leaving env (.ref e)) Q E s := by
  unfold leaving
  refine wpAny_bind (note_first gf ge ff st be o1 o2 o3 o4 o5 fun h1 x1 d1 u1 => lands_dic x1 d1 fun h2 x2 d2 u2 => ?_)
  obtain ⟨y1, y2, ⟨_, _, y3⟩, y4⟩ := x2
  exact k h2 ⟨y1, y2, y3, y4⟩ d2 (u1.trans u2)
end
end L2
namespace L2
open PySem PySem.Spec PyProof.Rows
theorem ObjOk.there {P : Program} {w : World} {H : Hp} {h : Heap} {a : Addr} {o : HO} (x : ObjOk P w H h a o) : ∃ ob, h.get? a = some ob := by
  cases o with
  | lst xs => obtain ⟨_, _, _, _, q⟩ := x; exact ⟨_, q⟩
  | tup xs => obtain ⟨_, _, _, ob, q, _⟩ := x; exact ⟨ob, q⟩
  | dK kvs => obtain ⟨_, _, _, _, ob, _, _, q, _⟩ := x; exact ⟨ob, q⟩
  | dT kvs => obtain ⟨_, _, _, _, ob, _, _, q, _⟩ := x; exact ⟨ob, q⟩
  | set S n => obtain ⟨ob, _, _, _, q, _⟩ := x; exact ⟨ob, q⟩
  | ins C dx fs => obtain ⟨_, _, _, q, _⟩ := x; exact ⟨_, q⟩
  | own y => exact x
  | xd fs => obtain ⟨_, ⟨ob, _, _, q, _⟩, _⟩ := x; exact ⟨ob, q⟩
  | rng lo hi => obtain ⟨_, _, _, q⟩ := x; exact ⟨_, q⟩
  | frz ob u => obtain ⟨q, _⟩ := x; exact ⟨_, q⟩
  | tbl ps => exact ⟨_, x⟩
  | met f y => exact ⟨_, x⟩
  | ext φ => obtain ⟨_, q, _⟩ := x; exact q
theorem HOk.there {P : Program} {w : World} {H : Hp} {h : Heap} {a : Addr} (k : HOk P w H h) (n : H a ≠ none) : ∃ ob, h.get? a = some ob := by
  cases e : H a with
  | none => exact absurd e n
  | some o => exact (k a o e).there
structure Flown (P : Program) (w : World) (outer : List Env) (H : Hp) (s : Shared) (H' : Hp) (s' : Shared) (B : Heap) (e : Addr) (cls a0 : Value) (dv : Option Addr) : Prop where
  os : s'.os = s.os
  bare : AllBare s'.gens
  un : Un (frs outer) [] H H' s.heap s'.heap
  hok : HOk P w H' s'.heap
  fly : Heap.FlyingW B outer e cls a0 s'.heap
  cond : ∀ b o, s'.heap.get? b = some o → b ∉ frs outer → ((∃ o', s.heap.get? b = some o') ∨ H' b ≠ none) → B.get? b = some o
  frf : ∀ b ∈ frs outer, H' b = none
  dic : Dic s'.heap e dv
def CXe (P : Program) (w : World) : CXT := fun outer H s E ev s' => ∃ (e : Addr) (cls a0 : Value) (dv : Option Addr) (H' : Hp) (B : Heap), ev = .ref e ∧ Flown P w outer H s H' s' B e cls a0 dv ∧ E cls dv H'
section
variable {P : Program} {w : World} {outer : List Env} {H H' : Hp} {s s' : Shared} {B : Heap} {e : Addr} {cls a0 : Value} {dv : Option Addr} {h' : Heap}
theorem Flown.unh (F : Flown P w outer H s H' s' B e cls a0 dv) (k : B.StaysIn h') (u : s'.heap.UpToSlots h') : Un (frs outer) [] H H' s.heap h' where
  keep := fun b o q n hb hx => k b o (F.cond b o (F.un.keep b o q n hb hx) hb (.inl ⟨o, q⟩))
  slot := fun b o q n hb hx => by
    obtain ⟨sl, q1⟩ := F.un.slot b o q n hb hx
    obtain ⟨_, o2, q2, nd⟩ := F.fly.2.2.1.mem hb
    rw [q1] at q2; cases q2
    obtain ⟨sl', q3⟩ := u b _ q1 nd
    exact ⟨sl', q3⟩
  free := F.un.free
  there := fun b o q hx => by
    obtain ⟨o1, q1⟩ := F.un.there b o q hx
    by_cases hb : b ∈ frs outer
    · obtain ⟨_, o2, q2, nd⟩ := F.fly.2.2.1.mem hb
      rw [q1] at q2; cases q2
      obtain ⟨sl', q3⟩ := u b _ q1 nd
      exact ⟨_, q3⟩
    · exact ⟨o1, k b o1 (F.cond b o1 q1 hb (.inl ⟨o, q⟩))⟩
  tups := F.un.tups
  frzs := F.un.frzs
  tbls := F.un.tbls
theorem Flown.trk (F : Flown P w outer H s H' s' B e cls a0 dv) (k : B.StaysIn h') : ∀ b o, H' b ≠ none → s'.heap.get? b = some o → h'.get? b = some o := fun b o n q =>
  k b o (F.cond b o q (fun hb => n (F.frf b hb)) (.inr n))
theorem Flown.hokh (F : Flown P w outer H s H' s' B e cls a0 dv) (k : B.StaysIn h') : HOk P w H' h' := fun a o q =>
  (F.hok a o q).stay (fun b u hb z => F.trk k b u (by
    rcases hb with rfl | hb
    · rw [q]; exact fun z => nomatch z
    · rw [hb]; exact fun z => nomatch z) z) (fun _ z => z) fun _ _ z => z
theorem Flown.go (F : Flown P w outer H s H' s' B e cls a0 dv) (x : Heap.FlyingW B outer e cls a0 h') (u : s'.heap.UpToSlots h') (dc : Dic h' e dv) : Flown P w outer H s H' { s' with heap := h' } B e cls a0 dv where
  os := F.os
  bare := F.bare
  un := F.unh x.1 u
  hok := F.hokh x.1
  fly := x
  cond := fun b o q hb hc => by
    have back : ∀ o', s'.heap.get? b = some o' → B.get? b = some o := fun o' q' => by
      have z := F.cond b o' q' hb hc
      have z' := x.1 b o' z
      have q2 : h'.get? b = some o := q
      rw [z'] at q2; cases q2
      exact z
    rcases id hc with ⟨o1, q1⟩ | n
    · obtain ⟨o2, q2⟩ := F.un.there b o1 q1 (by simp)
      exact back o2 q2
    · obtain ⟨o2, q2⟩ := F.hok.there n
      exact back o2 q2
  frf := F.frf
  dic := dc
end
def excD (e : Addr) (cls : Value) (dv : Option Addr) : HO := .ext fun h => ∃ oe ws, h.get? e = some oe ∧ oe.cls = cls ∧ oe.data = .fields ws ∧ oe.dict = dv ∧ ws[2]? = some Value.none
section
variable {X : Cx} {pins : List (Addr × Obj)} {σ : St} {H H' : Hp} {s s' : Shared} {B : Heap} {e : Addr} {cls a0 : Value} {dv : Option Addr}
end
section
variable {P : Program} {w : World} {K : PySem.W.Frag} {mg : Str → Option Value} {base : Heap} {N : List Str} {qual : Str} {scope : Scope} {f : Addr} {cd : Value} {A : Around} {outer : List Env} {s : Shared} {H : Hp} {E : XK}
  {pins : List (Addr × Obj)} {σ : St} {H1 : Hp} {s1 : Shared}
theorem cx_frames (I : Inv (cxOf (CXe P w) P w K mg base N qual scope f cd A outer s H E) pins σ H1 s1) : (A.deeper (envOfC qual scope s.heap.objs.size f cd)).frames = some (envOfC qual scope s.heap.objs.size f cd :: outer) := I.ok.frames
theorem xe_core {e : Addr} {ob : Obj} {ws : Array Value} {a0 : Value} (gf : (A.deeper (envOfC qual scope s.heap.objs.size f cd)).frames = some (envOfC qual scope s.heap.objs.size f cd :: outer)) (os : s1.os = s.os) (bare : AllBare s1.gens) (un1 : Un (frs outer) [] H H1 s.heap s1.heap) (hok : HOk P w H1 s1.heap)
    (fr0 : s1.heap.FunFrames base (envOfC qual scope s.heap.objs.size f cd :: outer)) (free1 : ∀ b ∈ frs (envOfC qual scope s.heap.objs.size f cd :: outer), H1 b = none) (ge : s1.heap.get? e = some ob) (od : ob.data = .fields ws) (w1 : ws[1]? = some .none) (w0 : ws[0]? = some a0) (w2 : ws[2]? = some Value.none)
    (en : s.heap.get? e = none) (eH : H1 e = none) (q : E ob.cls ob.dict H1) :
    wpAny (model P w) (A.deeper (envOfC qual scope s.heap.objs.size f cd)) (leaving (envOfC qual scope s.heap.objs.size f cd) (.ref e)) (fun _ s'' => CXe P w outer H s E (.ref e) s'') (fun e' s'' => CXe P w outer H s E e' s'') s1 := by
  have fsE : frs (envOfC qual scope s.heap.objs.size f cd :: outer) = s.heap.objs.size :: frs outer := rfl
  have hin : ∀ env ∈ (envOfC qual scope s.heap.objs.size f cd :: outer), ∀ b, env.frame = some b → b ∈ e :: frs (envOfC qual scope s.heap.objs.size f cd :: outer) := fun env he b hb => List.mem_cons_of_mem _ (List.mem_filterMap.mpr ⟨env, he, hb⟩)
  refine leaves_first (B := PySem.W.hideAll s1.heap (e :: frs (envOfC qual scope s.heap.objs.size f cd :: outer))) (L := s.heap.objs.size) gf rfl (PySem.W.funFrames_hide fr0 hin) (fun b o z => PySem.W.of_hideAll _ z) (PySem.W.hideAll_none _ List.mem_cons_self) ge od w1 w0 w2 fun h2 fl dc up => ?_
  have inB : ∀ b o, s1.heap.get? b = some o → b ≠ e → b ∉ frs (envOfC qual scope s.heap.objs.size f cd :: outer) → (PySem.W.hideAll s1.heap (e :: frs (envOfC qual scope s.heap.objs.size f cd :: outer))).get? b = some o := fun b o z n1 n => PySem.W.hideAll_get _ z fun m => by
    rcases List.mem_cons.mp m with y | y
    · exact n1 y
    · exact n y
  have olde : ∀ b o, s.heap.get? b = some o → b ≠ e := fun b o z y => by rw [y, en] at z; cases z
  have old : ∀ b o, s.heap.get? b = some o → b ∉ frs outer → b ∉ frs (envOfC qual scope s.heap.objs.size f cd :: outer) := fun b o z n hm => by
    rw [fsE] at hm
    rcases List.mem_cons.mp hm with rfl | hm
    · exact absurd (Heap.lt_size z) (Nat.lt_irrefl _)
    · exact n hm
  have slots : ∀ b o, s1.heap.get? b = some o → b ∈ frs outer → ∃ sl, h2.get? b = some { o with slots := sl } := fun b o z hb => by
    obtain ⟨_, o2, q2, nd⟩ := fr0.mem (b := b) (by show b ∈ frs _; rw [fsE]; exact List.mem_cons_of_mem _ hb)
    rw [z] at q2; cases q2
    exact up b o z nd
  have keepT : ∀ b o, H1 b ≠ none → s1.heap.get? b = some o → h2.get? b = some o := fun b o n z => fl.1 b o (inB b o z (fun y => n (y ▸ eH)) fun hm => n (free1 b hm))
  refine ⟨e, ob.cls, a0, ob.dict, H1, _, rfl, ⟨os, bare, ⟨fun b o z n hb hx' => ?_, fun b o z n hb hx' => ?_, un1.free, fun b o z hx' => ?_, un1.tups, un1.frzs, un1.tbls⟩, fun a o z => ?_, fl, fun b o z hb hc => ?_, fun b hb => ?_, dc⟩, q⟩
  · exact fl.1 b o (inB b o (un1.keep b o z n hb hx') (olde b o z) (old b o z hb))
  · obtain ⟨sl, z1⟩ := un1.slot b o z n hb hx'
    obtain ⟨sl', z2⟩ := slots b _ z1 hb
    exact ⟨sl', z2⟩
  · obtain ⟨o1, z1⟩ := un1.there b o z hx'
    by_cases hb : b ∈ frs outer
    · obtain ⟨sl', z2⟩ := slots b _ z1 hb
      exact ⟨_, z2⟩
    · exact ⟨o1, fl.1 b o1 (inB b o1 z1 (olde b o z) (old b o z hb))⟩
  · refine (hok a o z).stay (fun b u hb y => keepT b u ?_ y) (fun _ y => y) fun _ _ y => y
    rcases hb with rfl | hb
    · rw [z]; exact fun y => nomatch y
    · rw [hb]; exact fun y => nomatch y
  · have back : ∀ o', s1.heap.get? b = some o' → b ≠ e → b ∉ frs (envOfC qual scope s.heap.objs.size f cd :: outer) → (PySem.W.hideAll s1.heap (e :: frs (envOfC qual scope s.heap.objs.size f cd :: outer))).get? b = some o := fun o' y ne nb => by
      have y1 := inB b o' y ne nb
      have y2 := fl.1 b o' y1
      have z2 : h2.get? b = some o := z
      rw [y2] at z2; cases z2
      exact y1
    rcases hc with ⟨o1, z1⟩ | n
    · obtain ⟨o2, z2⟩ := un1.there b o1 z1 (by simp)
      exact back o2 z2 (olde b o1 z1) (old b o1 z1 hb)
    · obtain ⟨o2, z2⟩ := hok.there n
      exact back o2 z2 (fun y => n (y ▸ eH)) fun hm => n (free1 b hm)
  · exact free1 b (by rw [fsE]; exact List.mem_cons_of_mem _ hb)
theorem xe_raise {h' : Heap} {e : Addr} {cls : Value} {vs : List Value} (I : Inv (cxOf (CXe P w) P w K mg base N qual scope f cd A outer s H E) pins σ H1 s1) (hx : Heap.MadeExcOf s1.heap h' e cls vs) (q : E cls none H1) :
    (cxOf (CXe P w) P w K mg base N qual scope f cd A outer s H E).xe (.ref e) { s1 with heap := h' } := by
  have un1 : Un (frs outer) [] H H1 s.heap s1.heap := I.base
  obtain ⟨t, ge, _, _⟩ := hx.there
  have new : ∀ b o, s1.heap.get? b = some o → b ≠ e := fun b o z y => by rw [y, hx.new] at z; cases z
  have eH : H1 e = none := by
    cases z : H1 e with
    | none => rfl
    | some o => obtain ⟨u, y⟩ := I.hok.there (a := e) (by rw [z]; exact fun y => nomatch y); rw [hx.new] at y; cases y
  refine xe_core (s1 := { s1 with heap := h' }) (w0 := rfl) (cx_frames I) I.os I.bare ⟨fun b o z n hb hx' => hx.keeps _ _ (un1.keep b o z n hb hx'), fun b o z n hb hx' => ?_, un1.free, fun b o z hx' => ?_, un1.tups, un1.frzs, un1.tbls⟩ (I.hok.kept hx.keeps)
    ((show s1.heap.FunFrames base (envOfC qual scope s.heap.objs.size f cd :: outer) from I.stack).of_keeps fun b o z _ => ⟨o, hx.keeps b o z, rfl⟩) I.stkFree ge rfl rfl (w2 := rfl) ?_ eH q
  · obtain ⟨sl, y⟩ := un1.slot b o z n hb hx'
    exact ⟨sl, hx.keeps _ _ y⟩
  · obtain ⟨o1, y⟩ := un1.there b o z hx'
    exact ⟨o1, hx.keeps _ _ y⟩
  · cases z : s.heap.get? e with
    | none => rfl
    | some o => obtain ⟨o1, y⟩ := un1.there e o z (by simp); rw [hx.new] at y; cases y
theorem xe_pass {ev : Value} {s' : Shared} (I : Inv (cxOf (CXe P w) P w K mg base N qual scope f cd A outer s H E) pins σ H1 s1) (h : CXe P w (envOfC qual scope s.heap.objs.size f cd :: outer) H1 s1 E ev s') :
    (cxOf (CXe P w) P w K mg base N qual scope f cd A outer s H E).xe ev s' := by
  obtain ⟨e, cls, a0, dv, H', B, rfl, F, q⟩ := h
  show wpAny (model P w) (A.deeper (envOfC qual scope s.heap.objs.size f cd)) (leaving (envOfC qual scope s.heap.objs.size f cd) (.ref e)) (fun _ s'' => CXe P w outer H s E (.ref e) s'') (fun e' s'' => CXe P w outer H s E e' s'') s'
  have fsE : frs (envOfC qual scope s.heap.objs.size f cd :: outer) = s.heap.objs.size :: frs outer := rfl
  have un1 : Un (frs outer) [] H H1 s.heap s1.heap := I.base
  have old : ∀ b o, s.heap.get? b = some o → b ∉ frs outer → b ∉ frs (envOfC qual scope s.heap.objs.size f cd :: outer) := fun b o z n hm => by
    rw [fsE] at hm
    rcases List.mem_cons.mp hm with rfl | hm
    · exact absurd (Heap.lt_size z) (Nat.lt_irrefl _)
    · exact n hm
  refine leaves_next (L := s.heap.objs.size) (cx_frames I) rfl F.fly F.dic fun h2 fl dc up => ?_
  have un2 := F.unh fl.1 up
  have sub : ∀ b, b ∈ frs outer → b ∈ frs (envOfC qual scope s.heap.objs.size f cd :: outer) := fun b hb => by rw [fsE]; exact List.mem_cons_of_mem _ hb
  refine ⟨e, cls, a0, dv, H', B, rfl, ⟨F.os.trans I.os, F.bare, ⟨fun b o z n hb hx' => ?_, fun b o z n hb hx' => ?_, fun b o z n hx' => ?_, fun b o z hx' => ?_, fun b xs z => F.un.tups b xs (un1.tups b xs z), fun b o u z => F.un.frzs b o u (un1.frzs b o u z), fun b ps z => ?_⟩, F.hokh fl.1, fl, fun b o z hb hc => ?_, fun b hb => F.frf b (sub b hb), dc⟩, q⟩
  · exact un2.keep b o (un1.keep b o z n hb hx') (un1.free b o z n hx') (old b o z hb) hx'
  · obtain ⟨sl, z1⟩ := un1.slot b o z n hb hx'
    obtain ⟨sl', z2⟩ := un2.slot b _ z1 (un1.free b o z n hx') (sub b hb) hx'
    exact ⟨sl', z2⟩
  · obtain ⟨o1, z1⟩ := un1.there b o z hx'
    exact F.un.free b o1 z1 (un1.free b o z n hx') hx'
  · obtain ⟨o1, z1⟩ := un1.there b o z hx'
    exact un2.there b o1 z1 hx'
  · obtain ⟨m1, z1⟩ := un1.tbls b ps z
    obtain ⟨m2, z2⟩ := F.un.tbls b _ z1
    exact ⟨m1 ++ m2, by rw [z2, Array.append_assoc]⟩
  · rcases hc with ⟨o1, z1⟩ | n
    · obtain ⟨o2, z2⟩ := un1.there b o1 z1 (by simp)
      exact (F.go (h' := h2) ⟨fl.1, fl.2.1, (F.fly.2.2.1.of_keeps fun c oc yc nd => by obtain ⟨sl, y⟩ := up c oc yc nd; exact ⟨_, y, rfl⟩), fl.2.2.2⟩ up dc).cond b o z (old b o1 z1 hb) (.inl ⟨o2, z2⟩)
    · refine (F.go (h' := h2) ⟨fl.1, fl.2.1, (F.fly.2.2.1.of_keeps fun c oc yc nd => by obtain ⟨sl, y⟩ := up c oc yc nd; exact ⟨_, y, rfl⟩), fl.2.2.2⟩ up dc).cond b o z (fun hm => n (F.frf b hm)) (.inr n)
end
theorem passE0 {P : Program} {w : World} {X : Cx} : Passes (CXe P w) X E0 := fun _ _ _ _ _ _ _ ⟨_, _, _, _, _, _, _, _, h⟩ => h.elim
theorem pass_cx {P : Program} {w : World} {K : PySem.W.Frag} {mg : Str → Option Value} {base : Heap} {N : List Str} {qual : Str} {scope : Scope} {f : Addr} {cd : Value} {A : Around} {outer : List Env} {s : Shared} {H : Hp} {E : XK} :
    Passes (CXe P w) (cxOf (CXe P w) P w K mg base N qual scope f cd A outer s H E) E := fun _ _ _ _ _ _ I h => xe_pass I h
end L2
namespace L2
open PySem PySem.Spec PyProof.Rows
theorem exc_obj {K : PySem.W.Frag} {h : Heap} {C : Addr} {bmB : List Value} {newId : String} (kin : K.In h) (yes : PySem.W.excIn K C bmB newId = true) :
    ∃ bm N nm q bs hdct sn sub ab col dd k0 k1 k2 k3 k5 mN, h.get? C = some (excClassObj nm q C N bs bm hdct sn sub ab col dd k0 k1 k2 k3 k5 newId) ∧ h.Ns N mN ∧ mN "__init__" = none ∧ OwnTail h bmB bm := by
  unfold PySem.W.excIn at yes
  split at yes
  case h_2 => cases yes
  case h_1 dict cdat slots found =>
    split at yes
    case h_2 => cases yes
    case h_1 C0 bm0 a0 a1 a2 a3 nid a5 em eslots =>
      simp only [Bool.and_eq_true, beq_iff_eq, Bool.not_eq_true'] at yes
      obtain ⟨⟨⟨⟨⟨y1, y2⟩, y3⟩, y4⟩, y5⟩, y6⟩ := yes
      subst y1 y2
      obtain ⟨f1, f2, f3, f4, f5, f6, f7, f8, f9, f10, f11⟩ := cdat
      dsimp only at em y3 y5 y6
      subst em y3
      obtain ⟨sl⟩ := slots
      dsimp only at eslots
      subst eslots
      have Nn := Heap.Ns.of_isNs (PySem.W.isNs_of_in kin y5)
      exact ⟨bm0, f4, f1, f5, f2, f6, f7, f8, f9, f10, dict, a0, a1, a2, a3, a5, _, kin _ _ found, Nn, PySem.W.ns_none_of kin Nn y6, PySem.W.tail_of_in kin y4⟩
def Raises (X : Cx) (E : XK) : Prop := ∀ (pins : List (Addr × Obj)) (σ : St) (H1 : Hp) (s1 : Shared) (h' : Heap) (e : Addr) (cls : Value) (vs : List Value), Inv X pins σ H1 s1 → Heap.MadeExcOf s1.heap h' e cls vs → E cls none H1 → X.xe (.ref e) { s1 with heap := h' }
theorem raises_cx {P : Program} {w : World} {K : PySem.W.Frag} {mg : Str → Option Value} {base : Heap} {N : List Str} {qual : Str} {scope : Scope} {f : Addr} {cd : Value} {A : Around} {outer : List Env} {s : Shared} {H : Hp} {E : XK} :
    Raises (cxOf (CXe P w) P w K mg base N qual scope f cd A outer s H E) E := fun _ _ _ _ _ _ _ _ I hx q => xe_raise I hx q
def vmro : List Value := [.type "ValueError", .type "Exception", .type "BaseException", .type "object"]
def ExcC (K : PySem.W.Frag) (C : Addr) : Prop := PySem.W.excIn K C vmro "ValueError.__new__" = true
def tRaise (C : Addr) (E : XK) (t : TA) : TS := fun _ σ H => t σ H fun vs H1 => vs.length ≤ sizeLine ∧ E (.ref C) none H1
theorem ps_raise {X : Cx} {E : XK} {x : Str} {C : Addr} {e : Expr} {es : List Expr} {t : TA} {np cpos pos : Pos} (hr : Raises X E) (hc : X.calm = true) (hg : Gl X x) (hm : X.mg x = some (.ref C)) (hC : ExcC X.K C) (ha : PA X (e :: es) t)
    (hdb : (x == ("__debug__" : Str)) = false := by decide) (he : starEach (e :: es) X.env = (false, eval e X.env) :: starEach es X.env := by rfl) (hpl : (backTo cpos (starEach es X.env)).any (·.1) = false := by rfl) :
    PS X (.Raise (some (.Call (.Name x np) (e :: es) [] cpos)) none pos) (tRaise C E t) := by
  intro pins s σ H D I h
  obtain ⟨bm, N, nm, q, bs, hdct, sn, sub, ab, col, dd, k0, k1, k2, k3, k5, mN, gC, gN, gi, gT⟩ := exc_obj I.mod.kin hC
  refine wpAny_Raise_call_subU (C := C) (nm := nm) (q := q) (N := N) (bs := bs) (bm := bm) (hdct := hdct) (sn := sn) (sub := sub) (ab := ab) (col := col) (dd := dd) (k0 := k0) (k1 := k1) (k2 := k2) (k3 := k3) (k5 := k5)
    PySem.F.excBase_ValueError (by decide +kernel) PySem.F.excBase_ValueError (mN := mN) (gT.hasType PySem.F.excBase_ValueError.hasBase) (I.ok.hd hc)
    (by rw [he]; show (false || (backTo cpos (starEach es X.env)).any (·.1)) = false; rw [hpl]; rfl) gi (ld_glob I hg hm ⟨rfl, ?_⟩ hdb)
  have hq := ha cpos pins s σ H _ I h
  rw [he] at hq ⊢
  refine Calls.evalArgs_plain (thn hq fun us s1 ⟨vs, H1, I1, r, z, y⟩ => ⟨rfl, by rw [← r.length]; exact z, I1.bk _ _ gC, gN.keeps I1.bk, gT.keeps I1.bk, fun h' e' hx => ?_⟩)
  exact hr pins σ H1 s1 h' e' _ us I1 hx y
def tCallS (sp : Sp) (dvs : List V) (E : St → XK) (t : TA) : TE := fun σ H Q => t σ H fun vs H1 => sp (vs ++ dvs) H1 Q (E σ)
section
variable {X : Cx} {CX : CXT} {k : Nat} {f : Addr} {fd : FuncData} {ps : List Str} {sp : Sp} {dvs : List V} {ds : List Value} {E : St → XK} {x : Str} {p pos : Pos} {e : Expr} {es : List Expr} {t : TA}
end
abbrev Cx.tr (X : Cx) (pins : List (Addr × Obj)) (xe : Value → Shared → Prop) : Cx := { X with pn := X.pn ++ pins, xe := xe }
section
variable {X : Cx} {pins pins' : List (Addr × Obj)} {σ : St} {H : Hp} {s : Shared} {xe : Value → Shared → Prop} {e : Addr}
theorem Cx.Ok.tr (ok : X.Ok) : (X.tr pins xe).Ok :=
  ⟨ok.mod, ok.kind, ok.glob, ok.blt, ok.above, ok.inj, ok.has, ok.cab, ok.hd, ok.frames, ok.stk, ok.exf, ok.bs, ok.bsz, ok.noex, ok.exfs, ok.funs, ok.frf⟩
theorem Inv.tr (I : Inv X pins σ H s) : Inv (X.tr pins xe) [] σ H s := ⟨I.ok.tr, I.os, I.bare, I.base, I.loc, I.cell, I.free, I.freeC, fun p hp => I.pin p (by
    have z : p ∈ (X.pn ++ pins) ++ [] := hp
    rw [List.append_nil] at z
    exact z), I.hok, I.len⟩
end
abbrev TH := Value → Option Addr → Ends → St → Hp → Prop
def Ends.gone (D : Ends) (i : Nat) : Ends := ⟨fun σ H => D.nx (σ.set i none) H, D.rt, fun σ H => D.bk (σ.set i none) H, fun σ H => D.ct (σ.set i none) H⟩
def tH (K : PySem.W.Frag) (c : Value) (i : Nat) (ts : TS) (th : TH) : TH := fun cls dv D σ H =>
  (PySem.W.exmOne K cls c = some true ∧ ∀ e, H e = none → ts (D.gone i) (σ.set i (some (.ref e))) (upd H e (excD e cls dv))) ∨ (PySem.W.exmOne K cls c = some false ∧ th cls dv D σ H)
def tHno : TH := fun _ _ _ _ _ => False
def tTry (tb : (St → XK) → TS) (th : TH) : TS := fun D σ H => tb (fun σ' cls dv H' => th cls dv D σ' H') D σ H
end L2
namespace L2
open PySem PySem.Spec PyProof.Rows PySem.Builtin PySem.Builtin.ObjectAttr PySem.Builtin.Getset_descriptor PySem.W
structure XCls (K : Frag) (C : Addr) : Prop where
  ga : findIn K (.ref C) "__getattribute__" = some (some (.builtin "BaseException.__getattribute__"))
  gt : findIn K (.ref C) "__getattr__" = some none
  be : mroIn K C (.type "BaseException") = some true
  ob : mroIn K C (.type "object") = some true
  cl : findIn K (.ref C) "__class__" = some (some (.builtin "object.__class__"))
  gs : specialIn K (.builtin "object.__class__") "__get__" = some (some (.builtin "getset_descriptor.__get__"))
  tk : takesIn K (.builtin "object.__class__") = some true
  is : (clsIn K C).isSome = true
section
variable {prog : Program} {w : World} {A : Around} {E : Value → Shared → Prop} {s : Shared} {K : Frag} {x C : Addr} {ox : Obj} {od : Option Obj} {name : Str}
theorem exc_check {nameV : Value} {Q : Unit → Shared → Prop} (kin : K.In s.heap) (L : ∀ M : Model, Looks M s.heap (typeOf (.ref x)) (.ref C)) (c : XCls K C) (h : Q () s) : wpAny (model prog w) A (checkBuiltinCall "BaseException.__getattribute__" ⟨[.ref x, nameV], []⟩) Q E s := by
  obtain ⟨hh, g, d, t, os⟩ := s
  have hk : builtinKind "BaseException.__getattribute__" = some .slot := by decide +kernel
  have hsplit : splitId "BaseException.__getattribute__" = some ("BaseException", "__getattribute__") := by decide +kernel
  have ha := F.args_bexc_ga (.ref x) nameV
  have L0 := L (model prog w)
  have L1 : Looks (model prog w) hh (isInstance (.ref x) (.type "BaseException")) true := L0.andThen (looks_mroIn kin c.be)
  simp only [checkBuiltinCall, hk, hsplit]
  refine wpAny_bind (L1.at ?_)
  rw [if_neg (by decide)]
  exact wpAny_of_eq ha h
theorem exc_by {tk : Tok} {fill expr : Bool} {Q : Value → Shared → Prop} (kin : K.In s.heap) (L : ∀ M : Model, Looks M s.heap (typeOf (.ref x)) (.ref C)) (c : XCls K C)
    (h : wpAny (model prog w) A.in1 (Builtin.«object.__getattribute__» ⟨[.ref x, .str name tk], []⟩) (fun fin s' => match fin with | .done (.ret v) => handedIn v = true ∧ Q v s' | _ => False) (fun _ _ => False) s) :
    wpAny (model prog w) A (getAttrBy (.ref x) (.str name tk) fill expr) Q E s := by
  obtain ⟨hh, g, d, t, os⟩ := s
  have L0 := L (model prog w)
  have L1 := looks_findIn (M := model prog w) kin c.ga
  have L2 := looks_findIn (M := model prog w) kin c.gt
  unfold getAttrBy
  refine wpAny_holding (wpAny_bind (L0.at (wpAny_bind (L1.at ?_))))
  show wpAny _ _ (getAttrByItsOwn _ _ _ _ _ _) _ _ _
  unfold getAttrByItsOwn
  refine wpAny_bind ?_
  show wpAny _ _ (typeLookup (.ref C) "__getattr__") _ _ _
  refine L2.at ?_
  refine wpAny_bind (wpAny_attempt (wpAny_holding ?_))
  have e1 : callGetattribute (.ref x) (.str name tk) (.builtin "BaseException.__getattribute__") expr = boundAndCalled (.builtin "BaseException.__getattribute__") (.ref x) (.str name tk) := by
    unfold callGetattribute
    cases expr <;> rfl
  rw [e1]
  unfold boundAndCalled
  refine wpAny_bind (wpAny_of_eq (PySem.F.attr_ValueError.ga.bind _) ?_)
  refine wpAny_call (codeAny_call_builtin PySem.F.attr_ValueError.ga.plain F.entry_bexc_ga (exc_check (nameV := .str name tk) kin L c ?_))
  refine wpAny_mono h (fun fin s' z => ?_) fun _ _ z => False.elim z
  rcases fin with (_ | _ | _ | _) | _ <;> first | exact z.elim | skip
  exact handed_on z.1 z.2
theorem exc_find_cls {M : Model} {h : Heap} (kin : K.In h) (c : XCls K C) : Looks M h (find (.ref x) (.ref C) "__class__") (.bind (.builtin "getset_descriptor.__get__") (.builtin "object.__class__")) :=
  (looks_findIn kin c.cl).andThen ((show Looks M h (getOf (some (.builtin "object.__class__"))) (some (.builtin "getset_descriptor.__get__")) from looks_specialIn kin c.gs).andThen
    ((show Looks M h (dataDescriptor? (some (.builtin "object.__class__")) (some (.builtin "getset_descriptor.__get__"))) (some (_, _)) from (looks_takesIn kin c.tk).andThen .now).andThen (Looks.tag .now)))
theorem exc_cls_get {tp : Value} {R : Result → Shared → Prop} (kin : K.In s.heap) (L : ∀ M : Model, Looks M s.heap (typeOf (.ref x)) (.ref C)) (c : XCls K C) (q : R (.ok (.ret (.ref C))) s) :
    codeAny (model prog w) A (.call (.builtin "getset_descriptor.__get__") ⟨[.builtin "object.__class__", .ref x, tp], []⟩) R s := by
  obtain ⟨hh, g, dr, t, os⟩ := s
  have T0 := L (model prog w)
  have T1 := looks_mroIn (M := model prog w) kin c.ob
  refine codeAny_call_builtin KF.slot_gs.plain KF.entry_gs (KF.slot_gs.check _ _ _ _ _ _ _ _ KF.type_class (KF.args_gs _ _ _) ?_)
  unfold Builtin.«getset_descriptor.__get__» descrGet
  rw [dga_obj]
  refine wpAny_bind (wpAny_pure ?_)
  unfold descrGetter
  unfold descrCheckInstance descrNameAndClass isInstance
  simp only [KF.owner_class]
  repeat lk
  refine And.intro (Code.quiet_builtin _ (by decide +kernel)) (codeAny_builtin KF.entry_class ?_)
  unfold Builtin.«object.__class__»
  unfold shownTypeOf
  repeat lk
  exact q
theorem exc_ca {Q : Option Value → Shared → Prop} (kin : K.In s.heap) (L : ∀ M : Model, Looks M s.heap (typeOf (.ref x)) (.ref C)) (c : XCls K C) (q : Q (some (.ref C)) { s with toks := s.toks + 1 }) :
    wpAny (model prog w) A (getAttr? (.ref x) "__class__") Q E s := by
  unfold getAttr? getAttrBy?
  refine wpAny_bind (wpAny_mkText (wpAny_bind (wpAny_attempt ?_)))
  refine exc_by (s := { s with toks := s.toks + 1 }) kin L c ?_
  obtain ⟨hh, g, dr, t, os⟩ := s
  have T0 := L (model prog w)
  have T1 := exc_find_cls (x := x) (M := model prog w) kin c
  unfold Builtin.«object.__getattribute__»
  refine wpAny_bind (wpAny_pure (wpAny_bind (wpAny_pure (wpAny_bind (T0.at (wpAny_bind (T1.at ?_)))))))
  show wpAny _ _ (bindTo _ _ _ _) _ _ _
  unfold bindTo
  dsimp only
  refine wpAny_bind (wpAny_holding (wpAny_call (exc_cls_get (s := ⟨hh, g, dr, t + 1, os⟩) kin L c ?_)))
  exact wpAny_pure ⟨rfl, wpAny_pure q⟩
end
def excIs (e : Addr) (cls : Value) (h : Heap) : Prop := ∃ oe ws, h.get? e = some oe ∧ oe.cls = cls ∧ oe.data = .fields ws
theorem excIs.ty {M : Model} {e : Addr} {cls : Value} {h : Heap} (p : excIs e cls h) : Looks M h (typeOf (.ref e)) cls := by
  obtain ⟨oe, ws, q, hc, _⟩ := p
  subst hc
  exact (Looks.ld q).andThen .now
theorem kitx_exc {K : Frag} {e C : Addr} (c : XCls K C) : KitX K (.ref e) (.ref C) (excIs e (.ref C)) where
  ty := fun _ _ _ p => p.ty
  it := fun _ _ kin _ => by
    have z := c.is
    unfold clsIn at z
    split at z
    · rename_i ho
      intro A' Q' E' s' k q
      unfold isType loadHead
      exact wpAny_bind (wpAny_loadPart (k _ _ (kin _ _ ho)) (wpAny_pure q))
    · cases z
  ne := fun h tp dd its n sl kin htp => by
    refine Bool.eq_false_iff.mpr fun q => ?_
    have z := c.is
    cases Value.ref.inj (beq_iff_eq.mp q)
    unfold clsIn at z
    split at z
    · rename_i ho
      cases (kin _ _ ho).symm.trans htp
    · cases z
  ca := fun kin p k => exc_ca kin (fun M => p.ty) c k
inductive TyX (K : Frag) (H : Hp) : V → Value → Prop where
  | of {x : V} {t : Value} (h : TyOf K H x t) : TyX K H x t
  | exc {a C : Addr} {dv : Option Addr} (e : H a = some (excD a (.ref C) dv)) (c : XCls K C) : TyX K H (.ref a) (.ref C)
def clsV : V → Option Value
  | .ref C => some (.ref C)
  | .ty n => some (.type n)
  | _ => none
def rIsi (K : Frag) : List V → Hp → VK → Prop := fun xs H Q => ∃ x c cv t b, xs = [x, c] ∧ clsV c = some cv ∧ TyX K H x t ∧ kitOne K t cv = some b ∧ Q (.bl b) H
theorem call_isi {X : Cx} : CallR X (.builtin "isinstance") (rIsi X.K) := by
  intro pins s σ H xs us Q I r h
  obtain ⟨x, c, cv, t, b, rfl, hc, ty, hk, q⟩ := h
  obtain ⟨u, u', rfl, r1, r2⟩ := vals2 r
  have e2 : u' = cv := by
    cases c with
    | ref C => cases hc; exact r2
    | ty n => cases hc; exact r2
    | _ => cases hc
  subst e2
  have fin : ∀ tk, EP X pins σ Q (.bool b) { s with toks := tk } := fun tk => ⟨.bl b, H, I.tok tk, rfl, q⟩
  cases ty with
  | of z => exact isinst_ok I r1 z hk fin
  | @exc a C dv ea c =>
    cases (show u = Value.ref a from r1)
    obtain ⟨⟨oe, ws, p1, p2, p3, _⟩, _, _⟩ := (show ObjOk X.prog X.w H s.heap a (excD a (.ref C) dv) from I.hok a _ ea)
    exact kia_one (kitx_exc c) I.kIn ⟨oe, ws, p1, p2, p3⟩ hk (fun z => nomatch z) fin
end L2
namespace L2
open PySem PySem.Spec PyProof.Rows
structure RoomU (k : Nat) (A : Around) : Prop where
  dp : A.depth + 3 * k + 5 < recursionLimit
  un : A.units + 16 * k + 200 < cLine
theorem RoomU.mono {j k : Nat} {A : Around} (r : RoomU k A) (h : j ≤ k) : RoomU j A := ⟨by have := r.dp; omega, by have := r.un; omega⟩
theorem RoomU.deeper {k : Nat} {A : Around} (r : RoomU (k + 1) A) (env : Env) : RoomU k (A.deeper env) :=
  ⟨by have := r.dp; show A.depth + 1 + 3 * k + 5 < _; omega, by have := r.un; show A.units + 3 + 16 * k + 200 < _; omega⟩
theorem RoomU.depth {k : Nat} {A : Around} (r : RoomU k A) : A.depth < recursionLimit := by have := r.dp; omega
def cxU (CX : CXT) (P : Program) (w : World) (K : PySem.W.Frag) (mg : Str → Option Value) (base : Heap) (N : List Str) (qual : Str) (scope : Scope) (f : Addr) (cd : Value) (A : Around) (outer : List Env) (s : Shared) (H : Hp) (E : XK) : Cx :=
  { cxOf CX P w K mg base N qual scope f cd A outer s H E with calm := false }
section
variable {X : Cx} {CX : CXT} {k : Nat} {f : Addr} {fd : FuncData} {ps : List Str} {sp : Sp} {dvs : List V} {ds : List Value} {E : XK} {x : Str} {p pos : Pos} {e : Expr} {es : List Expr} {t : TA}
end
section
variable {P : Program} {w : World} {K : PySem.W.Frag} {mg : Str → Option Value} {base : Heap} {x qual : Str} {st : Stmt} {f : Addr} {fd : FuncData} {N ps : List Str} {k : Nat} {sp : Sp}
theorem Fun.okE (F : Fun K x qual st f fd) (S : FnScope N ps (defScope st)) (len : ∀ vs H Q E, sp vs H Q E → vs.length = ps.length)
    (hbody : ∀ (cdv : Value) (A : Around) (outer : List Env) (s : Shared) (H : Hp) (vs : List V) (Q : VK) (E : XK), Room k (A.deeper (envOfC qual (defScope st) s.heap.objs.size f cdv)) → sp vs H Q E →
      ∃ t, PSs (cxOf (CXe P w) P w K mg base N qual (defScope st) f cdv A outer s H E).nox (defBody st) t ∧ t { nx := fun _ H' => Q .non H', rt := Q } (start N vs) H) : FnOk P w K mg base (CXe P w) (k + 1) f fd ps sp := by
  obtain ⟨oc, od, kV, doc, pm, an, cdv, ct, osl, rfl, lk, hcd⟩ := F.ex
  refine fn_of lk hcd S len fun A outer s H vs Q E hr hsp => ?_
  obtain ⟨t, h, q⟩ := hbody cdv A outer s H vs Q E hr hsp
  exact ⟨t, h.nox, q⟩
theorem Fun.okX (F : Fun K x qual st f fd) (S : FnScope N ps (defScope st)) (len : ∀ vs H Q E, sp vs H Q E → vs.length = ps.length)
    (hbody : ∀ (cdv : Value) (A : Around) (outer : List Env) (s : Shared) (H : Hp) (vs : List V) (Q : VK) (E : XK), Room k (A.deeper (envOfC qual (defScope st) s.heap.objs.size f cdv)) → sp vs H Q E →
      ∃ t, PSs (cxOf (CXe P w) P w K mg base N qual (defScope st) f cdv A outer s H E) (defBody st) t ∧ t { nx := fun _ H' => Q .non H', rt := Q } (start N vs) H) : FnOk P w K mg base (CXe P w) (k + 1) f fd ps sp := by
  obtain ⟨oc, od, kV, doc, pm, an, cdv, ct, osl, rfl, lk, hcd⟩ := F.ex
  exact fn_of lk hcd S len fun A outer s H vs Q E hr hsp => hbody cdv A outer s H vs Q E hr hsp
end
def Bd (n : Nat) (i : Int) : Prop := i.natAbs < 2 ^ n
theorem Bd.mono {m n : Nat} {i : Int} (h : Bd m i) (l : m ≤ n) : Bd n i := Nat.lt_of_lt_of_le h (Nat.pow_le_pow_right (by decide) l)
theorem Bd.mul {m n : Nat} {i j : Int} (h : Bd m i) (k : Bd n j) : Bd (m + n) (i * j) := by
  unfold Bd at *
  rw [Int.natAbs_mul, Nat.pow_add]
  exact Nat.mul_lt_mul'' h k
theorem Bd.add {n : Nat} {i j : Int} (h : Bd n i) (k : Bd n j) : Bd (n + 1) (i + j) := by
  unfold Bd at *
  have := Int.natAbs_add_le i j
  rw [Nat.pow_succ]
  omega
theorem Bd.neg {n : Nat} {i : Int} (h : Bd n i) : Bd n (-i) := by unfold Bd at *; rw [Int.natAbs_neg]; exact h
theorem Bd.sub {n : Nat} {i j : Int} (h : Bd n i) (k : Bd n j) : Bd (n + 1) (i - j) := by rw [Int.sub_eq_add_neg]; exact h.add k.neg
theorem Bd.le {n : Nat} {i j : Int} (h : Bd n i) (k : j.natAbs ≤ i.natAbs) : Bd n j := Nat.lt_of_le_of_lt k h
theorem Bd.log {n : Nat} {i : Int} (h : Bd n i) (z : i ≠ 0) : i.natAbs.log2 < n := (Nat.log2_lt (by omega)).mpr h
theorem Bd.bits {n : Nat} {i : Int} (h : Bd n i) : Builtin.Int.intBits i ≤ n := PySem.intBits_le_iff.mpr h
def CDivB (_ j : Int) : Prop := j ≠ 0 ∧ Bd 9000 j
def CMulB (i j : Int) : Prop := Bd 100000 i ∧ Bd 100000 j
theorem op_fdivB {X : Cx} : OpR X (binaryOp .FloorDiv) (rI CDivB fun i j => .int (i.fdiv j)) := opI fun _ _ _ _ _ _ _ hc q => floordiv_int hc.1 q (.inl (PyProof.noPylong_of_log2 (hc.2.log hc.1)))
theorem op_mulB {X : Cx} : OpR X (binaryOp .Mult) (rI CMulB fun i j => .int (i * j)) := opI fun _ _ _ _ _ _ _ hc q =>
  mul_int q (IntMulOk.of_bits (Nat.le_trans hc.1.bits (by decide)) (Nat.le_trans hc.2.bits (by decide)))
end L2
namespace L2
open PySem PySem.Spec PyProof.Rows
section
variable {prog : Program} {w : World} {A : Around} {R : Result → Shared → Prop} {s : Shared}
theorem comp_loop {elt target iter : Expr} {scope : Scope} {pos : Pos} {it acc : Value} {env : Env} (J : Nat → Shared → Prop)
    (turn : ∀ n s, J n s → wpAny (model prog w) A (pyNext it) (fun r s1 => match r with
      | none => R (.ok .next) s1
      | some v => wpAny (model prog w) A (letOwnedTupleGo target it v) (fun _ s2 => wpAny (model prog w) A (assign target env v) (fun _ s3 => wpAny (model prog w) A (eval elt env) (fun x s4 =>
          wpAny (model prog w) A (call (.builtin "list.append") [acc, x]) (fun _ s5 => ∃ m, m < n ∧ J m s5) (fun _ _ => False) s4) (fun _ _ => False) s3) (fun _ _ => False) s2) (fun _ _ => False) s1) (fun _ _ => False) s)
    (n : Nat) (h : J n s) : codeAny (model prog w) A (.compLoop (.ListComp elt [⟨target, iter, [], 0⟩] scope pos) 0 it acc env) R s := by
  refine codeAny_loop rfl J (fun n s hJ => ?_) n h
  show wpAny _ A ((compTurn (.ListComp elt [⟨target, iter, [], 0⟩] scope pos) 0 it acc env).onRaise (fun x => do noteFrame x env; theTreesLotGoes x)) _ _ s
  refine wpAny_noted ?_
  rw [compTurn_list1]
  have no : ∀ {P : Value → Shared → Prop} (a : Value) (b : Shared), (fun _ _ => False : Value → Shared → Prop) a b → P a b := fun _ _ z => False.elim z
  refine wpAny_bind (wpAny_standAt (wpAny_bind (wpAny_mono (turn n s hJ) (fun r s1 h1 => ?_) no)))
  cases r with
  | none => exact wpAny_pure h1
  | some v =>
    refine wpAny_bind (wpAny_mono h1 (fun _ s2 h2 => wpAny_bind (wpAny_mono h2 (fun _ s3 h3 => ?_) no)) no)
    exact wpAny_bind (wpAny_bind (wpAny_mono h3 (fun x s4 h4 => wpAny_bind (wpAny_mono h4 (fun _ s5 h5 => wpAny_pure (wpAny_pure ⟨rfl, h5⟩)) no)) no))
end
abbrev Cx.cp (X : Cx) (Nc : List Str) (scope : Scope) (cl : List (Str × Addr)) (C : Addr) (s₀ : Shared) (H₀ : Hp) (ex : List Addr) (pn : List (Addr × Obj)) : Cx :=
  { X with N := Nc, s₀ := s₀, H₀ := H₀, env := compEnvC scope cl C X.env, outer := X.stack, ex := ex, fn := fun _ => false, pn := pn, xe := fun _ _ => False }
def cσ (js : List (Option Nat)) (σ : St) : St := js.map fun o => o.bind fun j => (σ[j]?).join
def tComp (js : List (Option Nat)) (wi : TI) (g : TG) (te : TE) : TE := fun σ H Q => wi σ H fun J H1 => ∀ D, H1 D = none → ∃ W : Nat → Nat → List V → St → Hp → Prop, (∃ m, W 0 m [] (cσ js σ) (upd H1 D (.lst []))) ∧
  ∀ i m ys σc H, W i m ys σc H → (H D = some (.lst ys) ∧ J.stop i H ∧ Q (.ref D) H) ∨ (J.go i H ∧ ∀ x H', J.yld i H x H' → g x σc H' fun σ2 H2 => te σ2 H2 fun y H3 => H3 D = some (.lst ys) ∧ ys.length < sizeLine ∧ ∃ m', m' < m ∧ W (i + 1) m' (ys ++ [y]) σ2 (upd H3 D (.lst (ys ++ [y]))))
def PCo (X : Cx) (e : Expr) (scope : Scope) (iter : Expr) (t : TE) : Prop :=
  ∀ (pos : Pos) (use : Option (Value → Sem Unit)) (QQ : Value → Shared → Prop) (pins : List (Addr × Obj)) (s : Shared) (σ : St) (H : Hp) (Q : VK), Inv X pins σ H s → t σ H Q →
    (∀ (D C : Addr) (H5 : Hp) (s6 : Shared) (mC : Str → Option Value), Inv X pins σ H5 s6 → s6.heap.Ns C mC → FpOk X pins H5 C → Q (.ref D) H5 → compPost (model X.prog X.w) X.A X.xe use QQ (.ref D) C (.ok .next) s6) →
    wpAny (model X.prog X.w) X.A (comprehension e scope X.env pos (newList []) false (eval iter X.env) use) QQ X.xe s
theorem PCo.of {X : Cx} {e : Expr} {scope : Scope} {iter : Expr} {t t' : TE} (h : PCo X e scope iter t') (k : ∀ σ H Q, t σ H Q → t' σ H Q) : PCo X e scope iter t := fun pos use QQ pins s σ H Q I q fin => h pos use QQ pins s σ H Q I (k σ H Q q) fin
theorem PCo.pe {X : Cx} {elt iter tg : Expr} {scope : Scope} {pos : Pos} {t : TE} (h : PCo X (.ListComp elt [⟨tg, iter, [], 0⟩] scope pos) scope iter t) : PE X (.ListComp elt [⟨tg, iter, [], 0⟩] scope pos) t := by
  intro pins s σ H Q I q
  rw [eval_ListComp]
  exact h _ none (EP X pins σ Q) pins s σ H Q I q fun D C H5 s6 mC I7 hn fp qn => ⟨mC, hn, fun h8 sb => ⟨.ref D, H5, I7.turned (t' := s6.toks) (fun b o hb z => (sb.2 b hb).trans z) fp.1 fp.2.1 fp.2.2.2.1 fp.2.2.2.2.1 fp.2.2.2.2.2, rfl, qn⟩⟩
theorem PCo.ps {X : Cx} {elt iter tg : Expr} {scope : Scope} {cpos pos pos' : Pos} {t : TE} {i : Nat} {x : Str} (h : PCo X (.ListComp elt [⟨tg, iter, [], 0⟩] scope cpos) scope iter t) (hN : X.N.Nodup) (hi : X.N[i]? = some x) (hx : Loc X.env.scope x)
    (hsw : swapsWith (.ListComp elt [⟨tg, iter, [], 0⟩] scope cpos) (some (.Name x pos')) pos.line X.env = pure true := by rfl)
    (hf : X.fn x = true ∨ X.env.scope.names.lookup x = some .local := by first | exact .inl rfl | exact .inr rfl | assumption) : PS X (.Assign [.Name x pos'] (.ListComp elt [⟨tg, iter, [], 0⟩] scope cpos) pos) (tAsg t (gName i)) := by
  intro pins s σ H D0 I q
  rw [exec_Assign_Name_used _ _ _ _ hsw]
  refine wpAny_bind (wpAny_standAt (wpAny_bind ?_))
  show wpAny _ X.A (do let _ ← comprehension (.ListComp elt [⟨tg, iter, [], 0⟩] scope cpos) scope X.env _ (newList []) false (eval iter X.env) (some (assign (.Name x pos') X.env))) _ _ s
  refine wpAny_bind (wpAny_mono (h _ (some (assign (.Name x pos') X.env)) (fun _ s' => SP X pins D0 .next s') pins s σ H _ I q ?_) (fun _ s' hq => wpAny_pure (wpAny_pure hq)) fun _ _ e => e)
  intro D C H5 s6 mC I7 hn fp qn
  refine wpAny_assign_Name (store_ok2 (v := .ref D) I7 hN hi hx rfl (fun s8 I8 sb8 => ?_) hf)
  obtain ⟨a, sb, ha⟩ := sb8
  have hne : C ≠ a := by
    rcases ha with rfl | ha
    · exact fp.2.1
    · exact fun z => fp.2.2.2.2.1 _ _ ha z.symm
  refine ⟨mC, hn.sameBut sb hne, fun h9 sb9 => ⟨_, H5, ?_, qn⟩⟩
  exact I8.turned (t' := s8.toks) (fun b o hb z => (sb9.2 b hb).trans z) fp.1 fp.2.1 fp.2.2.2.1 fp.2.2.2.2.1 fp.2.2.2.2.2
theorem pe_comp {X : Cx} {elt iter tg : Expr} {scope : Scope} {cl : List (Str × Addr)} {Nc : List Str} {js : List (Option Nat)} {wi : TI} {g : TG} {te : TE} {pos : Pos} (hc : X.calm = true) (hi : PI X tg iter wi)
    (hg : ∀ C s₀ H₀ ex pn, PG (X.cp Nc scope cl C s₀ H₀ ex pn) tg g) (he : ∀ C s₀ H₀ ex pn, PE (X.cp Nc scope cl C s₀ H₀ ex pn) elt te)
    (hlen : js.length = Nc.length) (hcl1 : ∀ y c, cl.lookup y = some c → X.env.cells.lookup y = some c) (hcl2 : ∀ y, ((relabel scope X.env).names.lookup y = some .cell ∨ (relabel scope X.env).names.lookup y = some .free) → ∃ c, cl.lookup y = some c)
    (hjs : ∀ (i : Nat) (y : Str) (j : Nat), Nc[i]? = some y → js[i]? = some (some j) → X.N[j]? = some y ∧ Vis X.env.scope y ∧ X.env.kindOf y ≠ some .local ∧ ((relabel scope X.env).names.lookup y = some .cell ∨ (relabel scope X.env).names.lookup y = some .free) ∧ ∀ c, X.env.cells.lookup y = some c → cl.lookup y = some c)
    (hclos : closureFor scope X.env = pure cl) (hcell : ∀ y ∈ scope.names, y.2 ≠ .cell) (hkind : scope.kind = .function) (hnames : ∀ y ∈ scope.names, y.2 = .local → scope.names.lookup y.1 = some .local)
    (hs : ∀ x, foldedSetIterable iter X.env x = pure x := by intro _; rfl) : PCo X (.ListComp elt [⟨tg, iter, [], 0⟩] scope pos) scope iter (tComp js wi g te) := by
  intro pos0 use QQ pins s σ H Q I h fin
  refine wpAny_comprehension_free (use := use) rfl hs hclos hkind hnames (thn (hi pins s σ H _ I h) fun v s1 h1 => thn h1 fun itv s2 h2 => ?_)
  obtain ⟨it, fp, tn, J, H2, rfl, I2, T, st2, f2, R⟩ := h2
  refine wpAny_newObj_type (wpAny_newFunctionEnv hcell (by intro y hy; simp at hy) (fun h1 hns hsb => ?_) hkind)
  dsimp only at hns hsb ⊢
  have hf : H2 s2.heap.objs.size = none := I2.hok.fresh (Nat.le_refl _)
  obtain ⟨W, ⟨m0, w0⟩, turn⟩ := R s2.heap.objs.size hf
  -- D: the list; C: the block's names
  generalize eD : s2.heap.objs.size = D at *
  have I3 : Inv X pins σ (upd H2 D (.lst [])) { s2 with heap := s2.heap.push { cls := .type "list", dict := none, data := .seq ([] : List Value).toArray } } :=
    I2.laid (t' := s2.toks) (fun b u e => Heap.get?_push_of_some _ e) (by rw [eD]; exact Nat.le_refl _) ⟨Nat.zero_le _, [], 0, .nil, by rw [← eD]; exact Heap.get?_push_size _ rfl⟩
  generalize e3 : ({ s2 with heap := s2.heap.push { cls := .type "list", dict := none, data := .seq ([] : List Value).toArray } } : Shared) = s3 at I3
  have hp3 : s2.heap.push { cls := .type "list", dict := none, data := .seq ([] : List Value).toArray } = s3.heap := by rw [← e3]
  rw [hp3] at hns hsb ⊢
  generalize eC : s3.heap.objs.size = C at *
  have old : ∀ b o, s3.heap.get? b = some o → h1.get? b = some o := fun b o z => hsb.extBut b o (by rw [← eC]; exact Nat.ne_of_lt (Heap.lt_size z)) (Heap.get?_push_of_some _ z)
  have fpo : ∀ b ∈ fp, b < D := fun b hb => by
    obtain ⟨o, z, _⟩ := T.obj _ _ st2 b hb
    rw [← eD]; exact Heap.lt_size z
  have eCD : C = D + 1 := by rw [← eC, ← hp3, Heap.size_push, eD]
  have f3 : ∀ b ∈ fp, FpOk X pins (upd H2 D (.lst [])) b := fun b hb => ⟨by rw [upd_ne (Nat.ne_of_lt (fpo b hb))]; exact (f2 b hb).1, (f2 b hb).2⟩
  have okC : (X.cp Nc scope cl C s3 (upd H2 D (.lst [])) fp (X.pn ++ pins)).Ok := by
    have ok := I3.ok
    refine ⟨ok.mod, hkind, ok.glob, ok.blt, by rw [eC]; exact Nat.le_refl _, fun x y c a b => ok.inj x y c (hcl1 x c a) (hcl1 y c b), fun x hx => hcl2 x hx, fun x c z => absurd z Bool.false_ne_true, ok.hd, ok.frames, .inl rfl, fun b hb => ?_, fun b o z => I3.bs b o z, Nat.le_trans ok.bsz I3.sz, fun b o z hb => ?_, fun b hb hm => ?_, I3.stack, I3.stkFree⟩
    · exact ⟨by rw [eCD]; exact Nat.ne_of_lt (Nat.lt_succ_of_lt (fpo b hb)), fun x c z => (f3 b hb).2.2.2.2.1 x c (hcl1 x c z)⟩
    · rcases (f3 b hb).2.2.2.1 with y | y
      · exact ok.noex b o z y
      · exact absurd (Nat.lt_of_lt_of_le (Heap.lt_size z) (Nat.le_trans ok.bsz y)) (Nat.lt_irrefl _)
    · rcases List.mem_cons.mp (I3.stkSub b hm) with y | y
      · exact (f3 b hb).2.1 y
      · exact (f3 b hb).2.2.1 y
  have I4 : Inv (X.cp Nc scope cl C s3 (upd H2 D (.lst [])) fp (X.pn ++ pins)) [] (cσ js σ) (upd H2 D (.lst [])) { s2 with heap := h1, toks := s2.toks + ([] : List (Str × Value)).length } := by
    have os3 : s2.os = s3.os := by rw [← e3]
    have fC : upd H2 D (.lst []) C = none := I3.hok.fresh (by rw [eC]; exact Nat.le_refl _)
    refine ⟨okC, os3, I2.bare, Un.kept old, ⟨_, hns, fun i y v e1 e2 e3' => ?_⟩, fun y c z => ?_, fC, fun y c z => I3.freeC y c (hcl1 y c z), fun p hp => ?_, I3.hok.kept old, by rw [cσ, List.length_map]; exact hlen⟩
    · unfold cσ at e2
      rw [List.getElem?_map] at e2
      cases ej : js[i]? with
      | none => rw [ej] at e2; cases e2
      | some oj =>
        rw [ej] at e2
        cases oj with
        | none => cases e2
        | some j =>
          obtain ⟨a1, a2, a3, a4, a5⟩ := hjs i y j e1 ej
          have e2' : (σ[j]?).join = some v := Option.some.inj e2
          have e4 : σ[j]? = some (some v) := by
            cases q : σ[j]? with
            | none => rw [q] at e2'; cases e2'
            | some o => rw [q] at e2'; exact congrArg some e2'
          obtain ⟨m, hn, hl⟩ := I3.loc
          obtain ⟨u, r, l⟩ := hl j y v a1 e4 a2
          refine ⟨u, r, .inr ⟨a4, ?_⟩⟩
          rcases l with ⟨k, _⟩ | ⟨k, c, z, ⟨o, ho, hd⟩⟩
          · exact absurd k a3
          · exact ⟨c, a5 c z, o, old _ _ ho, hd⟩
    · obtain ⟨w', o, ho, hd⟩ := I3.cell y c (hcl1 y c z)
      exact ⟨w', o, old _ _ ho, hd⟩
    · have hp' : p ∈ X.pn ++ pins := by
        have z : p ∈ (X.pn ++ pins) ++ [] := hp
        rw [List.append_nil] at z; exact z
      obtain ⟨z, n, ne, nf, d⟩ := I3.pin p hp'
      refine ⟨old _ _ z, n, by rw [← eC]; exact Nat.ne_of_lt (Heap.lt_size z), fun hm => ?_, d⟩
      rcases List.mem_cons.mp (I3.stkSub p.1 hm) with y | y
      · exact ne y
      · exact nf y
  have st4 : tn 0 h1 := T.keep _ _ _ st2 fun b hb o z => old b o (by rw [← hp3]; exact Heap.get?_push_of_some _ z)
  have stat : ∀ {H' : Hp}, (∀ b ∈ fp, H' b = none) → ∀ b ∈ fp, FpOk (X.cp Nc scope cl C s3 (upd H2 D (.lst [])) fp (X.pn ++ pins)) [] H' b := fun hn b hb =>
    ⟨hn b hb, (okC.exf b hb).1, okC.exfs b hb, .inl hb, (okC.exf b hb).2 |> fun q x c z => q x c z, fun p hp => (f3 b hb).2.2.2.2.2 p (by
      have z : p ∈ (X.pn ++ pins) ++ [] := hp
      rw [List.append_nil] at z; exact z)⟩
  have loop : codeAny (model X.prog X.w) X.A (.compLoop (.ListComp elt [⟨tg, iter, [], 0⟩] scope pos) 0 (.ref it) (.ref D) (compEnvC scope cl C X.env)) (compPost (model X.prog X.w) X.A X.xe use QQ (.ref D) C) { s2 with heap := h1, toks := s2.toks + ([] : List (Str × Value)).length } := by
    refine comp_loop (fun n s' => ∃ i ys σc H', Inv (X.cp Nc scope cl C s3 (upd H2 D (.lst [])) fp (X.pn ++ pins)) [] σc H' s' ∧ tn i s'.heap ∧ (∀ b ∈ fp, H' b = none) ∧ W i n ys σc H') ?_ m0 ⟨0, [], _, _, I4, st4, fun b hb => (f3 b hb).1, w0⟩
    rintro n s5 ⟨i, ys, σ5, H5, I5, st5, fr5, w5⟩
    rcases turn i n ys σ5 H5 w5 with ⟨hD, stop, qn⟩ | ⟨go, step⟩
    · refine thn (T.done (X.cp Nc scope cl C s3 (upd H2 D (.lst [])) fp (X.pn ++ pins)) rfl rfl rfl hc i [] s5 σ5 H5 _ I5 (stat fr5) st5 stop) fun r s6 ⟨hr, I6⟩ => ?_
      subst hr
      obtain ⟨mC, hnC, _⟩ := id I6.loc
      have I7 : Inv X pins σ H5 s6 := I3.call' (ch := fp) I6.os I6.base I6.hok I6.bare fun b hb => ⟨(f3 b hb).2.2.2.1, (f3 b hb).2.1, (f3 b hb).2.2.2.2.1, (f3 b hb).2.2.2.2.2⟩
      have nC : s3.heap.objs.size ≤ C := by rw [eC]; exact Nat.le_refl _
      exact fin D C H5 s6 mC I7 hnC (I3.fpOk nC I6.free) qn
    · refine thn (T.item (X.cp Nc scope cl C s3 (upd H2 D (.lst [])) fp (X.pn ++ pins)) rfl rfl rfl hc i [] s5 σ5 H5 _ I5 (stat fr5) st5 go) fun r s6 ⟨u, hr, h6⟩ => ?_
      subst hr
      refine thn h6 fun _ s7 ⟨x, H7, I7, r7, y7, st7, fr7⟩ => ?_
      have I7' := I7.pinned (stat fr7) (T.obj _ _ st7)
      refine thn (hg C s3 _ fp _ _ s7 σ5 H7 x u _ I7' r7 (step x H7 y7)) fun _ s8 ⟨σ8, H8, I8, q8⟩ => ?_
      refine thn (he C s3 _ fp _ _ s8 σ8 H8 _ I8 q8) fun v9 s9 ⟨y9, H9, I9, r9, hD9, hz9, m9, lt9, w9⟩ => ?_
      refine thn (mt_append (X := X.cp Nc scope cl C s3 (upd H2 D (.lst [])) fp (X.pn ++ pins)) _ s9 σ8 H9 (.ref D) [y9] (.ref D) [v9] (fun _ H10 => H10 = upd H9 D (.lst (ys ++ [y9]))) I9 rfl (.cons r9 .nil) ⟨D, ys, y9, rfl, rfl, hD9, hz9, rfl⟩) fun v10 s10 ⟨_, H10, I10, _, e10⟩ => ?_
      subst e10
      refine ⟨m9, lt9, i + 1, ys ++ [y9], σ8, _, I10.unpinned, T.keep _ _ _ st7 fun b hb o z => (I10.pin (b, o) (List.mem_append_right _ (List.mem_append_right _ (mem_pinsAt hb z)))).1, fun b hb => ?_, w9⟩
      obtain ⟨o, z, d⟩ := T.obj _ _ st7 b hb
      exact (I10.pin (b, o) (List.mem_append_right _ (List.mem_append_right _ (mem_pinsAt hb z)))).2.1
  exact codeAny_compStart_list loop (T.self X.A 0 _ _ _ st4 loop)
end L2
namespace L2
open PySem PySem.Spec PyProof.Rows
inductive Dt where
  | non | bl (b : Bool) | int (i : Int) | str (x : Str) | tup (l : List Dt) | lst (l : List Dt)
mutual
def Rep (K : PySem.W.Frag) (H : Hp) : Dt → V → Prop
  | .non, v => v = .non
  | .bl b, v => v = .bl b
  | .int i, v => v = .int i
  | .str x, v => v = .str x
  | .tup l, v => ∃ a xs, v = .ref a ∧ SqT K H a xs ∧ Reps K H l xs
  | .lst l, v => ∃ a xs, v = .ref a ∧ SqL K H a xs ∧ Reps K H l xs
def Reps (K : PySem.W.Frag) (H : Hp) : List Dt → List V → Prop
  | [], xs => xs = []
  | d :: l, xs => ∃ x r, xs = x :: r ∧ Rep K H d x ∧ Reps K H l r
end
mutual
def Dt.sim : Dt → Dt → Bool
  | .non, .non => true
  | .bl _, .bl _ => true
  | .int _, .int _ => true
  | .str _, .str _ => true
  | .tup l, .tup m => Dt.sims l m
  | .lst l, .lst m => Dt.sims l m
  | _, _ => false
def Dt.sims : List Dt → List Dt → Bool
  | d :: l, e :: m => Dt.sim d e && Dt.sims l m
  | _, _ => true
end
mutual
def Dt.eqb : Dt → Dt → Bool
  | .non, .non => true
  | .bl a, .bl b => a == b
  | .int a, .int b => a == b
  | .str a, .str b => a == b
  | .tup l, .tup m => Dt.eqbs l m
  | .lst l, .lst m => Dt.eqbs l m
  | _, _ => false
def Dt.eqbs : List Dt → List Dt → Bool
  | [], [] => true
  | d :: l, e :: m => Dt.eqb d e && Dt.eqbs l m
  | _, _ => false
end
mutual
def Dt.dep : Dt → Nat
  | .tup l => Dt.deps l + 1
  | .lst l => Dt.deps l + 1
  | _ => 0
def Dt.deps : List Dt → Nat
  | [] => 0
  | d :: l => max (Dt.dep d) (Dt.deps l)
end
mutual
theorem Dt.eqb_refl : ∀ d : Dt, Dt.eqb d d = true
  | .non => rfl
  | .bl b => by simp [Dt.eqb]
  | .int i => by simp [Dt.eqb]
  | .str x => by simp [Dt.eqb]
  | .tup l => by rw [Dt.eqb]; exact Dt.eqbs_refl l
  | .lst l => by rw [Dt.eqb]; exact Dt.eqbs_refl l
theorem Dt.eqbs_refl : ∀ l : List Dt, Dt.eqbs l l = true
  | [] => rfl
  | d :: l => by rw [Dt.eqbs, Dt.eqb_refl d, Dt.eqbs_refl l]; rfl
end
mutual
theorem Dt.sim_refl : ∀ d : Dt, Dt.sim d d = true
  | .non => rfl
  | .bl b => rfl
  | .int i => rfl
  | .str x => rfl
  | .tup l => by rw [Dt.sim]; exact Dt.sims_refl l
  | .lst l => by rw [Dt.sim]; exact Dt.sims_refl l
theorem Dt.sims_refl : ∀ l : List Dt, Dt.sims l l = true
  | [] => rfl
  | d :: l => by rw [Dt.sims, Dt.sim_refl d, Dt.sims_refl l]; rfl
end
section
variable {X : Cx} {pins : List (Addr × Obj)} {σ : St} {H : Hp} {s : Shared}
theorem Inv.lt_inj (I : Inv X pins σ H s) {a : Addr} {xs ys : List V} (h : SqL X.K H a xs) (h' : SqT X.K H a ys) : False := by
  obtain ⟨its, _, ⟨ob, n, p, c', _⟩, _⟩ := I.list h
  obtain ⟨its', _, ⟨o, q, c, _⟩, _⟩ := I.tuple h'
  rw [p] at q
  cases q
  rw [c'] at c
  exact absurd c (by decide)
mutual
theorem Rep.inj (I : Inv X pins σ H s) : ∀ (d e : Dt) (v : V), Rep X.K H d v → Rep X.K H e v → d = e := by
  intro d e v h k
  match d, e with
  | .non, .non => rfl
  | .bl a, .bl b => simp only [Rep] at h k; subst h; cases k; rfl
  | .int a, .int b => simp only [Rep] at h k; subst h; cases k; rfl
  | .str a, .str b => simp only [Rep] at h k; subst h; cases k; rfl
  | .tup l, .tup m =>
    simp only [Rep] at h k
    obtain ⟨a, xs, rfl, s1, r1⟩ := h
    obtain ⟨b, ys, e, s2, r2⟩ := k
    cases e
    rw [I.tuple_inj s2 s1] at r2
    rw [Reps.inj I l m xs r1 r2]
  | .lst l, .lst m =>
    simp only [Rep] at h k
    obtain ⟨a, xs, rfl, s1, r1⟩ := h
    obtain ⟨b, ys, e, s2, r2⟩ := k
    cases e
    rw [I.list_inj s2 s1] at r2
    rw [Reps.inj I l m xs r1 r2]
  | .tup l, .lst m =>
    simp only [Rep] at h k
    obtain ⟨a, xs, rfl, s1, r1⟩ := h
    obtain ⟨b, ys, e, s2, r2⟩ := k
    cases e
    exact (I.lt_inj s2 s1).elim
  | .lst l, .tup m =>
    simp only [Rep] at h k
    obtain ⟨a, xs, rfl, s1, r1⟩ := h
    obtain ⟨b, ys, e, s2, r2⟩ := k
    cases e
    exact (I.lt_inj s1 s2).elim
  | .non, .bl _ | .non, .int _ | .non, .str _ | .bl _, .non | .bl _, .int _ | .bl _, .str _ | .int _, .non | .int _, .bl _ | .int _, .str _ | .str _, .non | .str _, .bl _ | .str _, .int _ => simp only [Rep] at h k; subst h; cases k
  | .non, .tup _ | .bl _, .tup _ | .int _, .tup _ | .str _, .tup _ | .non, .lst _ | .bl _, .lst _ | .int _, .lst _ | .str _, .lst _ => simp only [Rep] at h k; subst h; obtain ⟨b, ys, e, _⟩ := k; cases e
  | .tup _, .non | .tup _, .bl _ | .tup _, .int _ | .tup _, .str _ | .lst _, .non | .lst _, .bl _ | .lst _, .int _ | .lst _, .str _ => simp only [Rep] at h k; subst k; obtain ⟨b, ys, e, _⟩ := h; cases e
theorem Reps.inj (I : Inv X pins σ H s) : ∀ (l m : List Dt) (xs : List V), Reps X.K H l xs → Reps X.K H m xs → l = m := by
  intro l m xs h k
  match l, m with
  | [], [] => rfl
  | [], e :: m => simp only [Reps] at h k; subst h; obtain ⟨x, r, z, _⟩ := k; cases z
  | d :: l, [] => simp only [Reps] at h k; subst k; obtain ⟨x, r, z, _⟩ := h; cases z
  | d :: l, e :: m =>
    simp only [Reps] at h k
    obtain ⟨x, r, rfl, h1, h2⟩ := h
    obtain ⟨y, q, z, k1, k2⟩ := k
    cases z
    rw [Rep.inj I d e x h1 k1, Reps.inj I l m r h2 k2]
end
theorem Reps.len {K : PySem.W.Frag} {H : Hp} : ∀ {l : List Dt} {xs : List V}, Reps K H l xs → l.length = xs.length
  | [], xs, h => by simp only [Reps] at h; rw [h]; rfl
  | d :: l, xs, h => by
    simp only [Reps] at h
    obtain ⟨x, r, rfl, _, h2⟩ := h
    simp [Reps.len h2]
theorem Reps.at {K : PySem.W.Frag} {H : Hp} : ∀ {l : List Dt} {xs : List V} {j : Nat} {d : Dt}, Reps K H l xs → l[j]? = some d → ∃ x, xs[j]? = some x ∧ Rep K H d x
  | [], _, _, _, _, e => by simp at e
  | d0 :: l, xs, 0, d, h, e => by
    simp only [Reps] at h
    obtain ⟨x, r, rfl, h1, _⟩ := h
    simp at e; subst e
    exact ⟨x, rfl, h1⟩
  | d0 :: l, xs, j + 1, d, h, e => by
    simp only [Reps] at h
    obtain ⟨x, r, rfl, _, h2⟩ := h
    obtain ⟨y, e1, e2⟩ := Reps.at (j := j) h2 (by simpa using e)
    exact ⟨y, by simpa using e1, e2⟩
theorem Dt.deps_at : ∀ {l : List Dt} {j : Nat} {d : Dt}, l[j]? = some d → d.dep ≤ Dt.deps l
  | [], _, _, e => by simp at e
  | d0 :: l, 0, d, e => by simp at e; subst e; rw [Dt.deps]; exact Nat.le_max_left _ _
  | d0 :: l, j + 1, d, e => by rw [Dt.deps]; exact Nat.le_trans (Dt.deps_at (j := j) (by simpa using e)) (Nat.le_max_right _ _)
theorem Dt.sims_at : ∀ {l m : List Dt} {j : Nat} {d e : Dt}, Dt.sims l m = true → l[j]? = some d → m[j]? = some e → d.sim e = true
  | [], _, _, _, _, _, z, _ => by simp at z
  | _ :: _, [], _, _, _, _, _, z => by simp at z
  | d0 :: l, e0 :: m, 0, d, e, h, z1, z2 => by
    rw [Dt.sims] at h
    simp at z1 z2; subst z1 z2
    exact (Bool.and_eq_true_iff.mp h).1
  | d0 :: l, e0 :: m, j + 1, d, e, h, z1, z2 => by
    rw [Dt.sims] at h
    exact Dt.sims_at (j := j) (Bool.and_eq_true_iff.mp h).2 (by simpa using z1) (by simpa using z2)
theorem Dt.eqbs_all : ∀ {l m : List Dt}, l.length = m.length → Dt.eqbs l m = (List.range l.length).all fun j => match l[j]?, m[j]? with | some d, some e => d.eqb e | _, _ => true
  | [], [], _ => rfl
  | d :: l, e :: m, h => by
    have h' : l.length = m.length := by simpa using h
    rw [Dt.eqbs, Dt.eqbs_all h', List.length_cons, List.range_succ_eq_map, List.all_cons, List.all_map]
    rfl
theorem Dt.eqbs_len : ∀ {l m : List Dt}, l.length ≠ m.length → Dt.eqbs l m = false
  | [], [], h => absurd rfl h
  | [], _ :: _, _ => rfl
  | _ :: _, [], _ => rfl
  | d :: l, e :: m, h => by rw [Dt.eqbs, Dt.eqbs_len (by simpa using h), Bool.and_false]
def pairE (l m : List Dt) (j : Nat) : Bool := match l[j]?, m[j]? with | some d, some e => d.eqb e | _, _ => true
theorem items_at (I : Inv X pins σ H s) {k : Nat} {A : Around} {l m : List Dt} {xs ys : List V} {us vs : List Value}
    (ih : ∀ (A : Around) (d e : Dt) (x y : V) (u v : Value), d.dep ≤ k → A.units + k < cLine → d.sim e = true → Rep X.K H d x → Rep X.K H e y → RelV x u → RelV y v → SeqAt.EqAt A s u v (d.eqb e))
    (hd : Dt.deps l ≤ k) (hu : A.units + (k + 1) < cLine) (hs : Dt.sims l m = true) (r1 : Reps X.K H l xs) (r2 : Reps X.K H m ys) (v1 : Vals xs us) (v2 : Vals ys vs) :
    ∀ j (h1 : j < us.toArray.size) (h2 : j < vs.toArray.size), SeqAt.EqAt A.in1 s us.toArray[j] vs.toArray[j] (pairE l m j) := by
  intro j h1 h2
  have l1 : j < us.length := by simpa using h1
  have l2 : j < vs.length := by simpa using h2
  have n1 : l.length = us.length := r1.len.trans v1.length
  have n2 : m.length = vs.length := r2.len.trans v2.length
  obtain ⟨d, ed⟩ : ∃ d, l[j]? = some d := ⟨l[j], List.getElem?_eq_getElem (by omega)⟩
  obtain ⟨e, ee⟩ : ∃ e, m[j]? = some e := ⟨m[j], List.getElem?_eq_getElem (by omega)⟩
  obtain ⟨x, ex, rx⟩ := r1.at ed
  obtain ⟨y, ey, ry⟩ := r2.at ee
  obtain ⟨u, eu, ru⟩ := v1.get ex
  obtain ⟨v, ev, rv⟩ := v2.get ey
  have e1 : us.toArray[j] = u := by
    have := List.getElem?_eq_getElem l1
    rw [eu] at this
    simpa using (Option.some.inj this).symm
  have e2 : vs.toArray[j] = v := by
    have := List.getElem?_eq_getElem l2
    rw [ev] at this
    simpa using (Option.some.inj this).symm
  have ep : pairE l m j = d.eqb e := by unfold pairE; rw [ed, ee]
  rw [e1, e2, ep]
  exact ih A.in1 d e x y u v (Nat.le_trans (Dt.deps_at ed) hd) (by show A.units + 1 + k < cLine; omega) (Dt.sims_at hs ed ee) rx ry ru rv
theorem tup_b {l m : List Dt} {us vs : List Value} (n1 : l.length = us.length) (n2 : m.length = vs.length) : ((List.range (min us.toArray.size vs.toArray.size)).all (pairE l m) && us.toArray.size == vs.toArray.size) = Dt.eqbs l m := by
  have a1 : us.toArray.size = l.length := by simp [n1]
  have a2 : vs.toArray.size = m.length := by simp [n2]
  rw [a1, a2]
  by_cases h : l.length = m.length
  · rw [Dt.eqbs_all h, h, Nat.min_self]
    simp [pairE]
    rfl
  · rw [Dt.eqbs_len h, (beq_eq_false_iff_ne).mpr h, Bool.and_false]
theorem lst_b {l m : List Dt} {us vs : List Value} (n1 : l.length = us.length) (n2 : m.length = vs.length) (h : us.toArray.size = vs.toArray.size) : (List.range us.toArray.size).all (pairE l m) = Dt.eqbs l m := by
  have a1 : us.toArray.size = l.length := by simp [n1]
  have a2 : vs.toArray.size = m.length := by simp [n2]
  rw [Dt.eqbs_all (by omega), a1]
  rfl
theorem rc_tup (I : Inv X pins σ H s) {k : Nat} {A : Around} {l m : List Dt} {a b : Addr} {xs ys : List V}
    (ih : ∀ (A : Around) (d e : Dt) (x y : V) (u v : Value), d.dep ≤ k → A.units + k < cLine → d.sim e = true → Rep X.K H d x → Rep X.K H e y → RelV x u → RelV y v → SeqAt.EqAt A s u v (d.eqb e))
    (hd : Dt.deps l ≤ k) (hu : A.units + (k + 1) < cLine) (hs : Dt.sims l m = true) (q1 : SqT X.K H a xs) (q2 : SqT X.K H b ys) (r1 : Reps X.K H l xs) (r2 : Reps X.K H m ys) :
    SeqAt.RcAt A s (.ref a) (.ref b) (Dt.eqbs l m) ∧ SeqAt.RcNeAt A s (.ref a) (.ref b) (!Dt.eqbs l m) := by
  obtain ⟨us, v1, p1, _⟩ := I.tuple q1
  obtain ⟨vs, v2, p2, _⟩ := I.tuple q2
  have he := items_at I ih hd hu hs r1 r2 v1 v2
  rw [← tup_b (l := l) (m := m) (us := us) (vs := vs) (r1.len.trans v1.length) (r2.len.trans v2.length)]
  exact ⟨SeqAt.RcAt.tuples (show s.heap.IsTuple a us.toArray from p1) (show s.heap.IsTuple b vs.toArray from p2) (by omega) he, SeqAt.RcNeAt.tuples (show s.heap.IsTuple a us.toArray from p1) (show s.heap.IsTuple b vs.toArray from p2) (by omega) he⟩
theorem rc_lst (I : Inv X pins σ H s) {k : Nat} {A : Around} {l m : List Dt} {a b : Addr} {xs ys : List V}
    (ih : ∀ (A : Around) (d e : Dt) (x y : V) (u v : Value), d.dep ≤ k → A.units + k < cLine → d.sim e = true → Rep X.K H d x → Rep X.K H e y → RelV x u → RelV y v → SeqAt.EqAt A s u v (d.eqb e))
    (hd : Dt.deps l ≤ k) (hu : A.units + (k + 1) < cLine) (hs : Dt.sims l m = true) (q1 : SqL X.K H a xs) (q2 : SqL X.K H b ys) (r1 : Reps X.K H l xs) (r2 : Reps X.K H m ys) :
    SeqAt.RcAt A s (.ref a) (.ref b) (Dt.eqbs l m) ∧ SeqAt.RcNeAt A s (.ref a) (.ref b) (!Dt.eqbs l m) := by
  obtain ⟨us, v1, p1, _⟩ := I.list q1
  obtain ⟨vs, v2, p2, _⟩ := I.list q2
  have he := items_at I ih hd hu hs r1 r2 v1 v2
  by_cases hsz : us.toArray.size = vs.toArray.size
  · rw [← lst_b (l := l) (m := m) (us := us) (vs := vs) (r1.len.trans v1.length) (r2.len.trans v2.length) hsz]
    exact ⟨SeqAt.RcAt.lists p1.isList p2.isList hsz (by omega) he, SeqAt.RcNeAt.lists p1.isList p2.isList hsz (by omega) he⟩
  · have hl : l.length ≠ m.length := fun z => hsz (by
      have a1 := r1.len.trans v1.length
      have a2 := r2.len.trans v2.length
      simp; omega)
    rw [Dt.eqbs_len hl]
    exact ⟨SeqAt.RcAt.lists_lengths p1.isList p2.isList (by simpa using hsz) (by omega), SeqAt.RcNeAt.lists_lengths p1.isList p2.isList (by simpa using hsz) (by omega)⟩
theorem eq_at (I : Inv X pins σ H s) : ∀ (k : Nat) (A : Around) (d e : Dt) (x y : V) (u v : Value), d.dep ≤ k → A.units + k < cLine → d.sim e = true → Rep X.K H d x → Rep X.K H e y → RelV x u → RelV y v → SeqAt.EqAt A s u v (d.eqb e) := by
  intro k
  induction k with
  | zero =>
    intro A d e x y u v hd hu hs h1 h2 r1 r2
    match d, e with
    | .non, .non => simp only [Rep] at h1 h2; subst h1 h2; cases r1; cases r2; exact SeqAt.EqAt.same _
    | .bl a, .bl b => simp only [Rep] at h1 h2; subst h1 h2; cases r1; cases r2; exact SeqAt.EqAt.bool_bool a b
    | .int a, .int b => simp only [Rep] at h1 h2; subst h1 h2; obtain ⟨t, rfl⟩ := r1; obtain ⟨t', rfl⟩ := r2; exact SeqAt.EqAt.int_int a t b t'
    | .str a, .str b => simp only [Rep] at h1 h2; subst h1 h2; obtain ⟨t, rfl⟩ := r1; obtain ⟨t', rfl⟩ := r2; exact SeqAt.EqAt.str_str a t b t'
    | .tup l, _ => rw [Dt.dep] at hd; omega
    | .lst l, _ => rw [Dt.dep] at hd; omega
  | succ k ih =>
    intro A d e x y u v hd hu hs h1 h2 r1 r2
    match d, e with
    | .non, .non => simp only [Rep] at h1 h2; subst h1 h2; cases r1; cases r2; exact SeqAt.EqAt.same _
    | .bl a, .bl b => simp only [Rep] at h1 h2; subst h1 h2; cases r1; cases r2; exact SeqAt.EqAt.bool_bool a b
    | .int a, .int b => simp only [Rep] at h1 h2; subst h1 h2; obtain ⟨t, rfl⟩ := r1; obtain ⟨t', rfl⟩ := r2; exact SeqAt.EqAt.int_int a t b t'
    | .str a, .str b => simp only [Rep] at h1 h2; subst h1 h2; obtain ⟨t, rfl⟩ := r1; obtain ⟨t', rfl⟩ := r2; exact SeqAt.EqAt.str_str a t b t'
    | .tup l, .tup m =>
      have g1 := h1
      have g2 := h2
      simp only [Rep] at h1 h2
      obtain ⟨a, xs, rfl, q1, p1⟩ := h1
      obtain ⟨b, ys, rfl, q2, p2⟩ := h2
      cases r1; cases r2
      by_cases hab : a = b
      · subst hab
        rw [← Rep.inj I _ _ _ g1 g2, Dt.eqb_refl]
        exact SeqAt.EqAt.same _
      · rw [Dt.eqb]
        exact SeqAt.EqAt.of_refs hab (rc_tup I ih (by rw [Dt.dep] at hd; omega) hu (by rw [Dt.sim] at hs; exact hs) q1 q2 p1 p2).1
    | .lst l, .lst m =>
      have g1 := h1
      have g2 := h2
      simp only [Rep] at h1 h2
      obtain ⟨a, xs, rfl, q1, p1⟩ := h1
      obtain ⟨b, ys, rfl, q2, p2⟩ := h2
      cases r1; cases r2
      by_cases hab : a = b
      · subst hab
        rw [← Rep.inj I _ _ _ g1 g2, Dt.eqb_refl]
        exact SeqAt.EqAt.same _
      · rw [Dt.eqb]
        exact SeqAt.EqAt.of_refs hab (rc_lst I ih (by rw [Dt.dep] at hd; omega) hu (by rw [Dt.sim] at hs; exact hs) q1 q2 p1 p2).1
end
def rEqD (K : PySem.W.Frag) (ne : Bool) : R2 := fun x y H Q => ∃ d e, Rep K H d x ∧ Rep K H e y ∧ d.sim e = true ∧ 1 ≤ d.dep ∧ d.dep ≤ 60 ∧ Q (.bl (if ne then !d.eqb e else d.eqb e)) H
theorem eqD_at {X : Cx} {pins : List (Addr × Obj)} {σ : St} {H : Hp} {s : Shared} (I : Inv X pins σ H s) (hu : X.A.units + 64 < cLine) {d e : Dt} {x y : V} {u v : Value} (h1 : Rep X.K H d x) (h2 : Rep X.K H e y) (hs : d.sim e = true) (hd : 1 ≤ d.dep) (hd2 : d.dep ≤ 60) (r1 : RelV x u) (r2 : RelV y v) :
    SeqAt.RcAt X.A s u v (d.eqb e) ∧ SeqAt.RcNeAt X.A s u v (!d.eqb e) := by
  cases d with
  | tup l =>
    cases e with
    | tup m =>
      simp only [Rep] at h1 h2
      obtain ⟨a, xs, rfl, q1, p1⟩ := h1
      obtain ⟨b, ys, rfl, q2, p2⟩ := h2
      cases r1; cases r2
      rw [show Dt.eqb (.tup l) (.tup m) = Dt.eqbs l m from by rw [Dt.eqb]]
      have hd3 : Dt.deps l + 1 ≤ 60 := by rw [Dt.dep] at hd2; exact hd2
      exact rc_tup I (eq_at I (Dt.deps l)) (Nat.le_refl _) (by omega) (by rw [Dt.sim] at hs; exact hs) q1 q2 p1 p2
    | _ => exact absurd hs (by rw [Dt.sim] <;> simp)
  | lst l =>
    cases e with
    | lst m =>
      simp only [Rep] at h1 h2
      obtain ⟨a, xs, rfl, q1, p1⟩ := h1
      obtain ⟨b, ys, rfl, q2, p2⟩ := h2
      cases r1; cases r2
      rw [show Dt.eqb (.lst l) (.lst m) = Dt.eqbs l m from by rw [Dt.eqb]]
      have hd3 : Dt.deps l + 1 ≤ 60 := by rw [Dt.dep] at hd2; exact hd2
      exact rc_lst I (eq_at I (Dt.deps l)) (Nat.le_refl _) (by omega) (by rw [Dt.sim] at hs; exact hs) q1 q2 p1 p2
    | _ => exact absurd hs (by rw [Dt.sim] <;> simp)
  | non => exact absurd (show 1 ≤ 0 from hd) (by decide)
  | bl b => exact absurd (show 1 ≤ 0 from hd) (by decide)
  | int b => exact absurd (show 1 ≤ 0 from hd) (by decide)
  | str b => exact absurd (show 1 ≤ 0 from hd) (by decide)
theorem op_eqD {X : Cx} (hu : X.A.units + 64 < cLine) : OpR X (compareOp .Eq) (rEqD X.K false) := by
  intro pins s σ H x y v u Q I rx ry h
  obtain ⟨d, e, h1, h2, hs, hd, hd2, q⟩ := h
  exact (eqD_at I hu h1 h2 hs hd hd2 rx ry).1 _ _ _ _ ⟨.bl (d.eqb e), H, I, rfl, q⟩
theorem op_neD {X : Cx} (hu : X.A.units + 64 < cLine) : OpR X (compareOp .NotEq) (rEqD X.K true) := by
  intro pins s σ H x y v u Q I rx ry h
  obtain ⟨d, e, h1, h2, hs, hd, hd2, q⟩ := h
  exact (eqD_at I hu h1 h2 hs hd hd2 rx ry).2 _ _ _ _ ⟨.bl (!d.eqb e), H, I, rfl, q⟩
end L2
namespace L2
open PySem PySem.Spec PyProof.Rows
theorem rel_mem {scope : Scope} {env : Env} {y : Str} {k : NameKind} (h : (relabel scope env).names.lookup y = some k) (hk : k = .cell ∨ k = .free) (hc : ∀ p ∈ scope.names, p.2 ≠ .cell) : (y, NameKind.free) ∈ scope.names := by
  have m := PySem.mem_of_lookup h
  obtain ⟨⟨n, k'⟩, hm, e⟩ := List.mem_map.mp (show (y, k) ∈ scope.names.map _ from m)
  dsimp only at e
  split at e
  · rename_i q
    cases e
    have z : (k' == NameKind.free) = true := (Bool.and_eq_true_iff.mp (Bool.and_eq_true_iff.mp q).1).1
    rw [beq_iff_eq.mp z] at hm
    exact hm
  · cases e
    rcases hk with rfl | rfl
    · exact absurd rfl (hc _ hm)
    · exact hm
theorem pe_comp0 {X : Cx} {elt iter tg : Expr} {scope : Scope} (Nc : List Str) {wi : TI} {g : TG} {te : TE} {pos : Pos} (hc : X.calm = true) (hi : PI X tg iter wi)
    (hg : ∀ C s₀ H₀ ex pn, PG (X.cp Nc scope [] C s₀ H₀ ex pn) tg g) (he : ∀ C s₀ H₀ ex pn, PE (X.cp Nc scope [] C s₀ H₀ ex pn) elt te)
    (hnf : ∀ p ∈ scope.names, p.2 ≠ .free := by decide +kernel) (hcell : ∀ y ∈ scope.names, y.2 ≠ .cell := by decide +kernel) (hkind : scope.kind = .function := by rfl) (hnames : ∀ y ∈ scope.names, y.2 = .local → scope.names.lookup y.1 = some .local := by decide +kernel)
    (hs : ∀ x, foldedSetIterable iter X.env x = pure x := by intro _; rfl) : PCo X (.ListComp elt [⟨tg, iter, [], 0⟩] scope pos) scope iter (tComp (Nc.map fun _ => none) wi g te) :=
  pe_comp (cl := []) (Nc := Nc) hc hi hg he (by simp) (fun _ _ h => nomatch h) (fun y h => absurd rfl (hnf _ (h.elim (fun z => rel_mem z (.inl rfl) hcell) fun z => rel_mem z (.inr rfl) hcell)))
    (fun i y j _ h => by
      rw [List.getElem?_map] at h
      cases q : Nc[i]? with
      | none => rw [q] at h; cases h
      | some z => rw [q] at h; cases h) (closureFor_none hnf) hcell hkind hnames hs
theorem pe_comp1 {X : Cx} {elt iter tg : Expr} {scope : Scope} (Nl : List Str) (y : Str) (j : Nat) {c : Addr} {wi : TI} {g : TG} {te : TE} {pos : Pos} (hc : X.calm = true) (hi : PI X tg iter wi)
    (hg : ∀ C s₀ H₀ ex pn, PG (X.cp (Nl ++ [y]) scope [(y, c)] C s₀ H₀ ex pn) tg g) (he : ∀ C s₀ H₀ ex pn, PE (X.cp (Nl ++ [y]) scope [(y, c)] C s₀ H₀ ex pn) elt te)
    (hclos : closureFor scope X.env = pure [(y, c)]) (hy : X.env.cells.lookup y = some c) (hN : X.N[j]? = some y) (hk : X.env.kindOf y = some .cell) (hb : (relabel scope X.env).names.lookup y = some .cell)
    (h1 : ∀ p ∈ scope.names, p.2 = .free → p.1 = y := by decide +kernel) (hcell : ∀ y ∈ scope.names, y.2 ≠ .cell := by decide +kernel) (hkind : scope.kind = .function := by rfl) (hnames : ∀ y ∈ scope.names, y.2 = .local → scope.names.lookup y.1 = some .local := by decide +kernel)
    (hs : ∀ x, foldedSetIterable iter X.env x = pure x := by intro _; rfl) : PCo X (.ListComp elt [⟨tg, iter, [], 0⟩] scope pos) scope iter (tComp ((Nl.map fun _ => none) ++ [some j]) wi g te) := by
  have look : ∀ z d, List.lookup z [(y, c)] = some d → z = y ∧ d = c := fun z d h => by
    have m := PySem.mem_of_lookup h
    cases List.mem_singleton.mp m
    exact ⟨rfl, rfl⟩
  have self : List.lookup y [(y, c)] = some c := by simp
  refine pe_comp (cl := [(y, c)]) (Nc := Nl ++ [y]) hc hi hg he (by simp) (fun z d h => ?_) (fun z h => ?_) (fun i z j' e1 e2 => ?_) hclos hcell hkind hnames hs
  · obtain ⟨rfl, rfl⟩ := look z d h
    exact hy
  · have m := h.elim (fun q => rel_mem q (.inl rfl) hcell) fun q => rel_mem q (.inr rfl) hcell
    have e : z = y := h1 _ m rfl
    subst e
    exact ⟨c, self⟩
  · have hi : i = Nl.length := by
      by_cases hlt : i < Nl.length
      · rw [List.getElem?_append_left (by simpa using hlt), List.getElem?_map] at e2
        cases q : Nl[i]? with
        | none => rw [q] at e2; cases e2
        | some z => rw [q] at e2; cases e2
      · have := (List.getElem?_eq_some_iff.mp e1).1
        simp at this
        omega
    subst hi
    have a1 : (Nl ++ [y])[Nl.length]? = some y := by simp
    have a2 : ((Nl.map fun _ => (none : Option Nat)) ++ [some j])[Nl.length]? = some (some j) := by
      rw [List.getElem?_append_right (by simp)]
      simp
    rw [a1] at e1; cases e1
    rw [a2] at e2; cases e2
    exact ⟨hN, .inr (.inl hk), by rw [hk]; exact (fun q => nomatch q), .inl hb, fun d h => by rw [hy] at h; cases h; exact self⟩
structure Callee (P : Program) (w : World) (K : PySem.W.Frag) (mg : Str → Option Value) (base : Heap) (k : Nat) (x : Str) (ps : List Str) (sp : Sp) : Prop where
  ex : ∃ f fd, FnOk P w K mg base (CXe P w) k f fd ps sp ∧ mg x = some (.ref f) ∧ PySem.W.keepIn K (.ref f) = true ∧ Binds K fd ps []
section
variable {X : Cx} {k : Nat} {sp : Sp} {ps : List Str} {x : Str} {p pos : Pos} {e : Expr} {es : List Expr} {t : TA}
theorem pe_c {E : XK} (G : Callee X.prog X.w X.K X.mg X.base k x ps sp) (hr : Room k X.A) (hx : Passes (CXe X.prog X.w) X E) (ha : PA X (e :: es) t) (hg : Gl X x := by rfl)
    (hdb : (x == ("__debug__" : Str)) = false := by decide) (he : starEach (e :: es) X.env = (false, eval e X.env) :: starEach es X.env := by rfl) (hpl : (backTo pos (starEach es X.env)).any (·.1) = false := by rfl) :
    PE X (.Call (.Name x p) (e :: es) [] pos) (tCall sp [] E t) := by
  obtain ⟨f, fd, F, m, kp, b⟩ := G.ex
  exact pe_call F hr hg m kp b .nil hx ha hdb he hpl
end
theorem np {P : Program} {w : World} {X : Cx} : Passes (CXe P w) X E0 := passE0
end L2
namespace L2
open PySem PySem.Spec PyProof.Rows
def tMo (t : TE) : TE := fun σ H Q => ∃ Q0 : VK, t σ H Q0 ∧ ∀ v H', Q0 v H' → Q v H'
theorem PE.mo {X : Cx} {e : Expr} {t : TE} (h : PE X e t) : PE X e (tMo t) := fun pins s σ H Q I ⟨Q0, h0, k⟩ =>
  thn (h pins s σ H Q0 I h0) fun u s1 ⟨v, H1, I1, r, q⟩ => ⟨v, H1, I1, r, k v H1 q⟩
def FR (n : Nat) (g : TG) (tb : TS) (D : Ends) (σ : St) (H : Hp) : Prop := ∃ Pv : Nat → St → Hp → Prop, Pv 0 σ H ∧ (∀ i σ H, i < n → Pv i σ H → g (.int i) σ H fun σ2 H2 => tb { D with nx := Pv (i + 1), ct := Pv (i + 1), bk := D.nx } σ2 H2) ∧ ∀ σ H, Pv n σ H → D.nx σ H
def tForR (te : TE) (g : TG) (tb : TS) : TS := fun D σ H => te σ H fun v H1 => ∃ j : Int, v = .int j ∧ -(2 ^ 62) ≤ j ∧ j < 2 ^ 62 ∧ FR j.toNat g tb D σ H1
section
variable {X : Cx} {tg a : Expr} {body : List Stmt} {te : TE} {g : TG} {tb : TS} {p pos pos' : Pos}
theorem pi_rangeM (hg : Gl X "range") (hm : X.mg "range" = none) (ha : PE X a te) (hs : starEach [a] X.env = [(false, eval a X.env)]) : PI X tg (.Call (.Name "range" p) [a] [] pos) (iRng1 (tCons (tMo te) tNil)) := pi_range1 hg hm (pa_cons ha.mo pa_nil (by rw [hs]; rfl)) hs
theorem ps_forR (hc : X.calm = true) (hp : PassesOwn (model X.prog X.w) X.A X.env X.xe) (hm : X.mg "range" = none) (ha : PE X a te) (hgt : PG X tg g) (hb : PSs X body tb) (hg : Gl X "range" := by rfl) (hs : starEach [a] X.env = [(false, eval a X.env)] := by rfl) :
    PS X (.For tg (.Call (.Name "range" p) [a] [] pos') body [] pos) (tForR te g tb) := by
  intro pins s σ H D I h
  refine ps_for hp hc (pi_rangeM hg hm ha hs) hgt hb (by intro _; rfl) pins s σ H D I ?_
  refine ⟨_, h, fun v H1 ⟨j, e, b1, b2, Pv, p0, pt, pd⟩ => ⟨j, by rw [e], b1, b2, ?_⟩⟩
  exact for_range (lo := 0) (n := j.toNat) Pv p0 (fun i σ' H' hi q => by rw [show (0 : Int) + (i : Int) = (i : Int) from Int.zero_add _]; exact pt i σ' H' hi q) pd
end
def FL (xs : List V) (at_ : Hp → Prop) (g : TG) (tb : TS) (D : Ends) (σ : St) (H : Hp) : Prop := ∃ Pv : Nat → St → Hp → Prop, Pv 0 σ H ∧ (∀ i σ H, i ≤ xs.length → Pv i σ H → at_ H) ∧ (∀ i x σ H, xs[i]? = some x → Pv i σ H → g x σ H fun σ2 H2 => tb { D with nx := Pv (i + 1), ct := Pv (i + 1), bk := D.nx } σ2 H2) ∧ ∀ σ H, Pv xs.length σ H → D.nx σ H
def tForL (K : PySem.W.Frag) (te : TE) (g : TG) (tb : TS) : TS := fun D σ H => te σ H fun v H1 => ∃ a xs, v = .ref a ∧ SqL K H1 a xs ∧ FL xs (fun H => SqL K H a xs) g tb D σ H1
def tForT (K : PySem.W.Frag) (te : TE) (g : TG) (tb : TS) : TS := fun D σ H => te σ H fun v H1 => ∃ a xs, v = .ref a ∧ SqT K H1 a xs ∧ FL xs (fun H => SqT K H a xs) g tb D σ H1
section
variable {X : Cx} {tg l : Expr} {body : List Stmt} {te : TE} {g : TG} {tb : TS} {p pos pos' : Pos}
theorem ps_forL (hc : X.calm = true) (hp : PassesOwn (model X.prog X.w) X.A X.env X.xe) (hl : PE X l te) (hgt : PG X tg g) (hb : PSs X body tb) (hs : ∀ x, foldedSetIterable l X.env x = pure x := by intro _; rfl) :
    PS X (.For tg l body [] pos) (tForL X.K te g tb) := by
  intro pins s σ H D I h
  refine ps_for hp hc (pi_list hl.mo) hgt hb hs pins s σ H D I ?_
  refine ⟨_, h, fun v H1 ⟨a, xs, e, q, Pv, p0, pl, pt, pd⟩ => ⟨a, e, ⟨xs, q⟩, ?_⟩⟩
  exact for_list (xs := xs) Pv p0 pl pt pd
end
def CO (n : Nat) (src : Nat → Hp → V → Prop) (st : Hp → Prop) (js : List (Option Nat)) (g : TG) (tl : TE) (σ : St) (H1 : Hp) (Q : VK) : Prop := ∀ D, H1 D = none → ∃ Pv : Nat → List V → St → Hp → Prop, Pv 0 [] (cσ js σ) (upd H1 D (.lst [])) ∧ (∀ i ys σc H, i ≤ n → Pv i ys σc H → st H) ∧
  (∀ i ys σc H x, i < n → Pv i ys σc H → src i H x → g x σc H fun σ2 H2 => tl σ2 H2 fun y H3 => H3 D = some (.lst ys) ∧ ys.length < sizeLine ∧ Pv (i + 1) (ys ++ [y]) σ2 (upd H3 D (.lst (ys ++ [y])))) ∧ ∀ ys σc H, Pv n ys σc H → H D = some (.lst ys) ∧ Q (.ref D) H
def tMoG (g : TG) : TG := fun v σ H Q => ∃ Q0 : St → Hp → Prop, g v σ H Q0 ∧ ∀ σ' H', Q0 σ' H' → Q σ' H'
theorem CO.run {n : Nat} {src : Nat → Hp → V → Prop} {st : Hp → Prop} {js : List (Option Nat)} {g : TG} {tl : TE} {σ : St} {H1 : Hp} {Q : VK} {J : It} (h : CO n src st js g tl σ H1 Q) (hgo : ∀ i H, i < n → st H → J.go i H) (hst : ∀ H, st H → J.stop n H) (hy : ∀ i H x H', i < n → st H → J.yld i H x H' → H' = H ∧ src i H x) :
    ∀ D, H1 D = none → ∃ W : Nat → Nat → List V → St → Hp → Prop, (∃ m, W 0 m [] (cσ js σ) (upd H1 D (.lst []))) ∧
    ∀ i m ys σc H, W i m ys σc H → (H D = some (.lst ys) ∧ J.stop i H ∧ Q (.ref D) H) ∨ (J.go i H ∧ ∀ x H', J.yld i H x H' → tMoG g x σc H' fun σ2 H2 => tMo tl σ2 H2 fun y H3 => H3 D = some (.lst ys) ∧ ys.length < sizeLine ∧ ∃ m', m' < m ∧ W (i + 1) m' (ys ++ [y]) σ2 (upd H3 D (.lst (ys ++ [y])))) := by
  intro D hD
  obtain ⟨Pv, p0, ps, pt, pd⟩ := h D hD
  refine ⟨fun i m ys σc H => m = n - i ∧ i ≤ n ∧ Pv i ys σc H, ⟨n, by simp, Nat.zero_le _, p0⟩, ?_⟩
  rintro i m ys σc H ⟨rfl, hi, p⟩
  have s0 := ps i ys σc H hi p
  by_cases hlt : i < n
  · refine .inr ⟨hgo i H hlt s0, fun x H' y => ?_⟩
    obtain ⟨rfl, hx⟩ := hy i H x H' hlt s0 y
    have z := pt i ys σc H' x hlt p hx
    exact ⟨_, z, fun σ2 H2 z2 => ⟨_, z2, fun y3 H3 ⟨a1, a2, a3⟩ => ⟨a1, a2, n - (i + 1), by omega, rfl, hlt, a3⟩⟩⟩
  · have e : i = n := by omega
    subst e
    obtain ⟨a1, a2⟩ := pd ys σc H p
    exact .inl ⟨a1, hst H s0, a2⟩
def tCoR (js : List (Option Nat)) (te : TE) (g : TG) (tl : TE) : TE := fun σ H Q => te σ H fun v H1 => ∃ j : Int, v = .int j ∧ -(2 ^ 62) ≤ j ∧ j < 2 ^ 62 ∧ CO j.toNat (fun i _ x => x = .int i) (fun _ => True) js g tl σ H1 Q
def tCoL (K : PySem.W.Frag) (js : List (Option Nat)) (te : TE) (g : TG) (tl : TE) : TE := fun σ H Q => te σ H fun v H1 => ∃ a xs, v = .ref a ∧ SqL K H1 a xs ∧ CO xs.length (fun i _ x => xs[i]? = some x) (fun H => SqL K H a xs) js g tl σ H1 Q
def tCoT (K : PySem.W.Frag) (js : List (Option Nat)) (te : TE) (g : TG) (tl : TE) : TE := fun σ H Q => te σ H fun v H1 => ∃ a xs, v = .ref a ∧ SqT K H1 a xs ∧ CO xs.length (fun i _ x => xs[i]? = some x) (fun H => SqT K H a xs) js g tl σ H1 Q
theorem PG.mo {X : Cx} {tg : Expr} {g : TG} (h : PG X tg g) : PG X tg (tMoG g) := fun pins s σ H v u Q I r ⟨Q0, h0, k⟩ =>
  thn (h pins s σ H v u Q0 I r h0) fun _ s1 ⟨σ1, H1, I1, q⟩ => ⟨σ1, H1, I1, k σ1 H1 q⟩
theorem PE.of {X : Cx} {e : Expr} {t t' : TE} (h : PE X e t') (k : ∀ σ H Q, t σ H Q → t' σ H Q) : PE X e t := fun pins s σ H Q I q => h pins s σ H Q I (k σ H Q q)
section
variable {X : Cx} {tg a elt : Expr} {te tl : TE} {g : TG} {p pos pos' : Pos} {scope : Scope} {cl : List (Str × Addr)} {Nc : List Str} {js : List (Option Nat)}
theorem coR (hm : X.mg "range" = none) (ha : PE X a te) (hp : ∀ (wi : TI), PI X tg (.Call (.Name "range" p) [a] [] pos') wi → PCo X (.ListComp elt [⟨tg, .Call (.Name "range" p) [a] [] pos', [], 0⟩] scope pos) scope (.Call (.Name "range" p) [a] [] pos') (tComp js wi (tMoG g) (tMo tl)))
    (hg : Gl X "range" := by rfl) (hs : starEach [a] X.env = [(false, eval a X.env)] := by rfl) : PCo X (.ListComp elt [⟨tg, .Call (.Name "range" p) [a] [] pos', [], 0⟩] scope pos) scope (.Call (.Name "range" p) [a] [] pos') (tCoR js te g tl) := by
  refine (hp _ (pi_rangeM hg hm ha hs)).of fun σ H Q h => ?_
  refine ⟨_, h, fun v H1 ⟨j, e, b1, b2, c⟩ => ⟨j, by rw [e], b1, b2, ?_⟩⟩
  refine CO.run (J := Itr 0 j.toNat) c (fun _ _ h _ => h) (fun _ _ => Nat.le_refl _) fun i H x H' _ _ y => ⟨y.1, ?_⟩
  rw [y.2, Int.zero_add]
theorem coT (ha : PE X a te) (hp : ∀ (wi : TI), PI X tg a wi → PCo X (.ListComp elt [⟨tg, a, [], 0⟩] scope pos) scope a (tComp js wi (tMoG g) (tMo tl))) : PCo X (.ListComp elt [⟨tg, a, [], 0⟩] scope pos) scope a (tCoT X.K js te g tl) := by
  refine (hp _ (pi_tup ha.mo)).of fun σ H Q h => ?_
  refine ⟨_, h, fun v H1 ⟨b, xs, e, q, c⟩ => ⟨b, e, ⟨xs, q⟩, ?_⟩⟩
  refine CO.run (J := Itt X.K b) c (fun i H hi z => ⟨xs, xs[i], z, by simp [hi]⟩) (fun H z => ⟨xs, z, Nat.le_refl _⟩) fun i H x H' _ z y => ⟨y.1, y.2 xs z⟩
end
def WH (c : TT) (tb : TS) (D : Ends) (σ : St) (H : Hp) : Prop := ∃ (Pv : St → Hp → Prop) (μ : St → Hp → Nat), Pv σ H ∧ ∀ σ H, Pv σ H → c σ H fun b H1 => if b = true then tb { D with nx := fun σ' H' => Pv σ' H' ∧ μ σ' H' < μ σ H, ct := fun σ' H' => Pv σ' H' ∧ μ σ' H' < μ σ H, bk := D.nx } σ H1 else D.nx σ H1
def tMoT (t : TT) : TT := fun σ H Q => ∃ Q0 : Bool → Hp → Prop, t σ H Q0 ∧ ∀ v H', Q0 v H' → Q v H'
theorem PT.mo {X : Cx} {e : Expr} {t : TT} (h : PT X e t) : PT X e (tMoT t) := fun pins s σ H Q I ⟨Q0, h0, k⟩ => thn (h pins s σ H Q0 I h0) fun u s1 ⟨H1, I1, q⟩ => ⟨H1, I1, k u H1 q⟩
theorem ps_wh {X : Cx} {c : Expr} {body : List Stmt} {tc : TT} {tb : TS} {pos : Pos} (hp : PassesOwn (model X.prog X.w) X.A X.env X.xe) (hc : PT X c tc) (hb : PSs X body tb) : PS X (.While c body [] pos) (WH tc tb) := by
  intro pins s σ H D I ⟨Pv, μ, h0, hs⟩
  refine ps_while hp hc.mo hb pins s σ H D I (while_by Pv μ h0 (fun σ H q => ⟨_, hs σ H q, fun _ _ z => z⟩) fun σ H Q Q' k ⟨Q0, h0, k0⟩ => ⟨Q0, h0, fun b H1 z => k b H1 (k0 b H1 z)⟩)
end L2
namespace L2
open PySem PySem.Spec PyProof.Rows
theorem kit_int_int (K : PySem.W.Frag) : PySem.W.kitOne K (.type "int") (.type "int") = some true := by
  unfold PySem.W.kitOne
  rw [if_pos (by decide)]
theorem kit_tup_tup (K : PySem.W.Frag) : PySem.W.kitOne K (.type "tuple") (.type "tuple") = some true := by
  unfold PySem.W.kitOne
  rw [if_pos (by decide)]
theorem kit_int_bool (K : PySem.W.Frag) : PySem.W.kitOne K (.type "int") (.type "bool") = some false := by
  unfold PySem.W.kitOne
  rw [if_neg (by decide)]
  show (if PySem.W.kitMeta "bool" = true then (fastBuiltinMro "int").map (·.contains (.type "bool")) else none) = some false
  decide +kernel
section
variable {K : PySem.W.Frag} {H : Hp} {Q : VK}
theorem isi_ii {a : Int} (q : Q (.bl true) H) : rIsi K [.int a, .ty "int"] H Q := ⟨_, _, _, _, _, rfl, rfl, .of (.int a), kit_int_int K, q⟩
theorem isi_ib {a : Int} (q : Q (.bl false) H) : rIsi K [.int a, .ty "bool"] H Q := ⟨_, _, _, _, _, rfl, rfl, .of (.int a), kit_int_bool K, q⟩
end
theorem gcd_step {x y : Int} (hx : 0 ≤ x) (hy : 0 < y) : Int.gcd y (x % y) = Int.gcd x y := by
  obtain ⟨m, rfl⟩ := Int.eq_ofNat_of_zero_le hx
  obtain ⟨n, rfl⟩ := Int.eq_ofNat_of_zero_le (Int.le_of_lt hy)
  rw [← Int.natCast_emod]
  show Nat.gcd n (m % n) = Nat.gcd m n
  rw [Nat.gcd_comm n, ← Nat.gcd_rec, Nat.gcd_comm]
theorem gcd_end {x : Int} (hx : 0 ≤ x) : ((Int.gcd x 0 : Nat) : Int) = x := by
  rw [Int.gcd_zero_right]
  omega
theorem sz_le (n : Nat) (h : n ≤ 1000) : n ≤ sizeLine := Nat.le_of_lt (small1000 h)
theorem same_upd {H : Hp} {p : Addr} {o : HO} (h : H p = none) : Same H (upd H p o) := fun b u e => by rw [upd_ne (ne_of_none e h)]; exact e
theorem CO.pure1 {n : Nat} {src : Nat → Hp → V → Prop} {st : Hp → Prop} {js : List (Option Nat)} {tl : TE} {σ : St} {H1 : Hp} {Q : VK} (f : Nat → V) (hn : n ≤ 1000) (hst : ∀ H, Same H1 H → st H)
    (hel : ∀ i H x (R : VK), i < n → Same H1 H → src i H x → (∀ y H3, y = f i → Same H H3 → R y H3) → tl (some x :: cσ js σ) H R)
    (hq : ∀ D H, Same H1 H → H1 D = none → H D = some (.lst ((List.range n).map f)) → Q (.ref D) H) : CO n src st (none :: js) (gName 0) tl σ H1 Q := by
  intro D hD
  refine ⟨fun i ys σc H => (∃ r, σc = r :: cσ js σ) ∧ Same H1 H ∧ H D = some (.lst ys) ∧ ys = (List.range i).map f, ⟨⟨none, rfl⟩, same_upd hD, upd_same, rfl⟩, fun i ys σc H _ h => hst H h.2.1, ?_, ?_⟩
  · rintro i ys σc H x hi ⟨⟨r, rfl⟩, sm, hd, rfl⟩ hx
    refine hel i H x _ hi sm hx fun y H3 hy s3 => ?_
    refine ⟨s3 _ _ hd, small1000 (by simp; omega), ⟨_, rfl⟩, ?_, upd_same, ?_⟩
    · intro b o z
      rw [upd_ne (ne_of_none z hD)]
      exact s3 _ _ (sm _ _ z)
    · rw [hy, List.range_succ, List.map_append]
      rfl
  · rintro ys σc H ⟨_, sm, hd, rfl⟩
    exact ⟨hd, hq D H sm hD hd⟩
theorem eqD_same {K : PySem.W.Frag} {H : Hp} {x y : V} {Q : VK} (d : Dt) (h1 : Rep K H d x) (h2 : Rep K H d y) (a : 1 ≤ d.dep) (b : d.dep ≤ 60) (q : Q (.bl true) H) : rEqD K false x y H Q := ⟨d, d, h1, h2, d.sim_refl, a, b, by rw [d.eqb_refl]; exact q⟩
theorem gcd_abs (a b : Int) : Int.gcd (if a < 0 then -a else a) (if b < 0 then -b else b) = Int.gcd a b := by
  split <;> split <;> simp
end L2
namespace Mt
structure Red (t b u v : Int) : Prop where
  pos : 1 ≤ v
  low : Int.gcd u v = 1
  eq : u * b = t * v
  ut : u.natAbs ≤ t.natAbs
  vb : v.natAbs ≤ b.natAbs
theorem red_mk {t b g u v : Int} (hg : g ≠ 0) (ht : t = g * u) (hb : b = g * v) (hv : 0 < v) (hc : Int.gcd u v = 1) : Red t b u v := by
  have h1 : 1 ≤ g.natAbs := by omega
  refine ⟨hv, hc, ?_, ?_, ?_⟩
  · rw [hb, ht, ← Int.mul_assoc, Int.mul_comm u g]
  · rw [ht, Int.natAbs_mul]
    exact Nat.le_mul_of_pos_left _ h1
  · rw [hb, Int.natAbs_mul]
    exact Nat.le_mul_of_pos_left _ h1
theorem gcd_parts {t b : Int} (hb : b ≠ 0) : ∃ u v : Int, t = (Int.gcd t b : Nat) * u ∧ b = (Int.gcd t b : Nat) * v ∧ Int.gcd u v = 1 ∧ 0 < Int.gcd t b := by
  have hp : 0 < Int.gcd t b := Int.gcd_pos_of_ne_zero_right t hb
  refine ⟨t / (Int.gcd t b : Nat), b / (Int.gcd t b : Nat), ?_, ?_, Int.gcd_ediv_gcd_ediv_gcd hp, hp⟩
  · exact (Int.mul_ediv_cancel' (Int.gcd_dvd_left t b)).symm
  · exact (Int.mul_ediv_cancel' (Int.gcd_dvd_right t b)).symm
theorem fdiv_part {x g u : Int} (hg : g ≠ 0) (h : x = g * u) : x.fdiv g = u := by rw [h, Int.mul_fdiv_cancel_left _ hg]
theorem red_pos {t b : Int} (hb : 0 < b) : Red t b (t.fdiv (Int.gcd t b : Nat)) (b.fdiv (Int.gcd t b : Nat)) := by
  obtain ⟨u, v, h1, h2, hc, hp⟩ := gcd_parts (t := t) (show b ≠ 0 by omega)
  have hg : ((Int.gcd t b : Nat) : Int) ≠ 0 := by omega
  rw [fdiv_part hg h1, fdiv_part hg h2]
  refine red_mk hg h1 h2 ?_ hc
  have hn : (0 : Int) < (Int.gcd t b : Nat) := by omega
  rcases Int.lt_trichotomy v 0 with z | z | z
  · have := Int.mul_neg_of_pos_of_neg hn z
    omega
  · rw [z, Int.mul_zero] at h2; omega
  · exact z
theorem gcd_le {t b : Int} (hb : b ≠ 0) : (Int.gcd t b) ≤ b.natAbs := by
  have h : (Int.gcd t b) ∣ b.natAbs := Nat.gcd_dvd_right _ _
  exact Nat.le_of_dvd (by omega) h
end Mt
namespace Mt
structure Fr (t b : Int) : Prop where
  pos : 1 ≤ b
  low : Int.gcd t b = 1
structure Is (t b u v : Int) : Prop where
  fr : Fr u v
  eq : u * b = t * v
theorem cop {a b : Int} : Int.gcd a b = 1 ↔ Nat.Coprime a.natAbs b.natAbs := Iff.rfl
theorem cop_mul_right {k a b : Int} (h1 : Int.gcd k a = 1) (h2 : Int.gcd k b = 1) : Int.gcd k (a * b) = 1 := by
  rw [cop, Int.natAbs_mul]
  exact Nat.Coprime.mul_right h1 h2
theorem cop_dvd_left {k l a : Int} (h : Int.gcd k a = 1) (d : l ∣ k) : Int.gcd l a = 1 := by
  rw [cop] at *
  exact Nat.Coprime.coprime_dvd_left (Int.natAbs_dvd_natAbs.mpr d) h
theorem cop_dvd_right {k l a : Int} (h : Int.gcd a k = 1) (d : l ∣ k) : Int.gcd a l = 1 := by
  rw [Int.gcd_comm] at *
  exact cop_dvd_left h d
theorem cop_add_mul {a b c : Int} (h : Int.gcd a c = 1) : Int.gcd (a + b * c) c = 1 := by
  rw [Int.gcd_eq_one_iff] at *
  intro k h1 h2
  refine h k ?_ h2
  have h3 : k ∣ b * c := Int.dvd_trans h2 ⟨b, Int.mul_comm b c⟩
  have := Int.dvd_sub h1 h3
  rw [Int.add_sub_cancel] at this
  exact this
theorem cop_mul_left {k a b : Int} (h1 : Int.gcd a k = 1) (h2 : Int.gcd b k = 1) : Int.gcd (a * b) k = 1 := by
  rw [Int.gcd_comm] at *
  exact cop_mul_right h1 h2
theorem parts {t b : Int} (hb : b ≠ 0) : ∃ u v g : Int, g = (Int.gcd t b : Nat) ∧ 0 < g ∧ t = g * u ∧ b = g * v ∧ Int.gcd u v = 1 ∧ t.fdiv g = u ∧ b.fdiv g = v := by
  obtain ⟨u, v, h1, h2, hc, hp⟩ := gcd_parts (t := t) hb
  have hg : ((Int.gcd t b : Nat) : Int) ≠ 0 := by omega
  exact ⟨u, v, _, rfl, by omega, h1, h2, hc, fdiv_part hg h1, fdiv_part hg h2⟩
theorem pos_of_mul {g v b : Int} (hg : 0 < g) (h : b = g * v) (hb : 0 < b) : 0 < v := by
  rcases Int.lt_trichotomy v 0 with z | z | z
  · have := Int.mul_neg_of_pos_of_neg hg z; omega
  · rw [z, Int.mul_zero] at h; omega
  · exact z
theorem le_mul1 {g v : Int} (hg : 0 < g) (hv : 0 < v) : g ≤ g * v := by
  have h : g * 1 ≤ g * v := Int.mul_le_mul_of_nonneg_left (by omega) (by omega)
  rw [Int.mul_one] at h
  exact h
theorem plus_ok {a0 a1 b0 b1 : Int} (ha : Fr a0 a1) (hb : Fr b0 b1) :
    let p : Int := (Int.gcd a1 b1 : Nat)
    let t := a0 * b1.fdiv p + b0 * a1.fdiv p
    let r : Int := (Int.gcd t p : Nat)
    Is (a0 * b1 + b0 * a1) (a1 * b1) (t.fdiv r) (a1.fdiv p * b1.fdiv r) ∧ 0 < p ∧ 0 < r ∧ p ≤ a1 ∧ p ≤ b1 ∧ r ≤ p ∧ (b1.fdiv p).natAbs ≤ b1.natAbs ∧ (a1.fdiv p).natAbs ≤ a1.natAbs ∧ (b1.fdiv r).natAbs ≤ b1.natAbs := by
  intro p t r
  have hb1 : b1 ≠ 0 := by have := hb.pos; omega
  obtain ⟨A, B, g, eg, hg, e1, e2, cAB, f1, f2⟩ := parts (t := a1) hb1
  have ep : p = g := eg.symm
  have et : t = a0 * B + b0 * A := by show a0 * b1.fdiv p + b0 * a1.fdiv p = _; rw [ep, f1, f2]
  have hp0 : p ≠ 0 := by omega
  obtain ⟨T, D, e, ee, he, g1, g2, cTD, k1, k2⟩ := parts (t := t) hp0
  have er : r = e := ee.symm
  have hA : 0 < A := pos_of_mul hg e1 (by have := ha.pos; omega)
  have hB : 0 < B := pos_of_mul hg e2 (by have := hb.pos; omega)
  have hD : 0 < D := pos_of_mul he g2 (by omega)
  -- b1 = e * (D * B)
  have e3 : b1 = e * (D * B) := by rw [e2, ← ep, g2, Int.mul_assoc]
  have f3 : b1.fdiv r = D * B := by rw [er]; exact fdiv_part (by omega) e3
  have f4 : a1.fdiv p = A := by rw [ep]; exact f1
  have f5 : t.fdiv r = T := by rw [er]; exact k1
  -- T is prime to A, B, D
  have cA : Int.gcd t A = 1 := by
    rw [et]
    refine cop_add_mul (cop_mul_left (cop_dvd_right ha.low ⟨g, by rw [Int.mul_comm]; exact e1⟩) ?_)
    rw [Int.gcd_comm]; exact cAB
  have cB : Int.gcd t B = 1 := by
    rw [et, Int.add_comm]
    exact cop_add_mul (cop_mul_left (cop_dvd_right hb.low ⟨g, by rw [Int.mul_comm]; exact e2⟩) cAB)
  have dT : T ∣ t := ⟨e, by rw [Int.mul_comm]; exact g1⟩
  refine ⟨⟨⟨?_, ?_⟩, ?_⟩, by omega, by omega, ?_, ?_, ?_, ?_, ?_, ?_⟩
  · rw [f3, f4]
    have := Int.mul_pos hA (Int.mul_pos hD hB)
    omega
  · rw [f3, f4, f5]
    exact cop_mul_right (cop_dvd_left cA dT) (cop_mul_right cTD (cop_dvd_left cB dT))
  · rw [f3, f4, f5]
    -- T * (a1 * b1) = (a0 * b1 + b0 * a1) * (A * (D * B))
    have q1 : a0 * b1 + b0 * a1 = g * (e * T) := by
      rw [← g1, et, e1, e2, Int.mul_add]
      congr 1
      · rw [← Int.mul_assoc, Int.mul_comm a0 g, Int.mul_assoc]
      · rw [← Int.mul_assoc, Int.mul_comm b0 g, Int.mul_assoc]
    rw [q1, e3, e1]
    simp only [Int.mul_assoc, Int.mul_comm, Int.mul_left_comm]
  · rw [ep, e1]
    exact le_mul1 (by omega) (by omega)
  · rw [ep, e2]
    exact le_mul1 (by omega) (by omega)
  · rw [er, g2]
    exact le_mul1 (by omega) (by omega)
  · rw [ep, f2, e2, Int.natAbs_mul]
    exact Nat.le_mul_of_pos_left _ (by omega)
  · rw [f4, e1, Int.natAbs_mul]
    exact Nat.le_mul_of_pos_left _ (by omega)
  · rw [f3, e3, Int.natAbs_mul e]
    exact Nat.le_mul_of_pos_left _ (by omega)
theorem times_ok {a0 a1 b0 b1 : Int} (ha : Fr a0 a1) (hb : Fr b0 b1) :
    let f : Int := (Int.gcd a0 b1 : Nat)
    let s : Int := (Int.gcd b0 a1 : Nat)
    Is (a0 * b0) (a1 * b1) (a0.fdiv f * b0.fdiv s) (a1.fdiv s * b1.fdiv f) ∧ 0 < f ∧ 0 < s ∧ f ≤ b1 ∧ s ≤ a1 ∧ (a0.fdiv f).natAbs ≤ a0.natAbs ∧ (b0.fdiv s).natAbs ≤ b0.natAbs ∧ (a1.fdiv s).natAbs ≤ a1.natAbs ∧ (b1.fdiv f).natAbs ≤ b1.natAbs := by
  intro f s
  obtain ⟨A, B, g, eg, hg, e1, e2, cAB, f1, f2⟩ := parts (t := a0) (b := b1) (by have := hb.pos; omega)
  obtain ⟨C, D, k, ek, hk, e3, e4, cCD, f3, f4⟩ := parts (t := b0) (b := a1) (by have := ha.pos; omega)
  have ef : f = g := eg.symm
  have es : s = k := ek.symm
  rw [ef, es, f1, f2, f3, f4]
  have hB : 0 < B := pos_of_mul hg e2 (by have := hb.pos; omega)
  have hD : 0 < D := pos_of_mul hk e4 (by have := ha.pos; omega)
  have dA : A ∣ a0 := ⟨g, by rw [Int.mul_comm]; exact e1⟩
  have dB : B ∣ b1 := ⟨g, by rw [Int.mul_comm]; exact e2⟩
  have dC : C ∣ b0 := ⟨k, by rw [Int.mul_comm]; exact e3⟩
  have dD : D ∣ a1 := ⟨k, by rw [Int.mul_comm]; exact e4⟩
  refine ⟨⟨⟨?_, ?_⟩, ?_⟩, hg, hk, ?_, ?_, ?_, ?_, ?_, ?_⟩
  · have := Int.mul_pos hD hB; omega
  · exact cop_mul_right (cop_mul_left (cop_dvd_left (cop_dvd_right ha.low dD) dA) cCD) (cop_mul_left cAB (cop_dvd_left (cop_dvd_right hb.low dB) dC))
  · rw [e1, e2, e3, e4]
    simp only [Int.mul_assoc, Int.mul_comm, Int.mul_left_comm]
  · rw [e2]; exact le_mul1 (by omega) (by omega)
  · rw [e4]; exact le_mul1 (by omega) (by omega)
  · rw [e1, Int.natAbs_mul]; exact Nat.le_mul_of_pos_left _ (by omega)
  · rw [e3, Int.natAbs_mul]; exact Nat.le_mul_of_pos_left _ (by omega)
  · rw [e4, Int.natAbs_mul]; exact Nat.le_mul_of_pos_left _ (by omega)
  · rw [e2, Int.natAbs_mul]; exact Nat.le_mul_of_pos_left _ (by omega)
theorem Red.is {t b u v : Int} (h : Red t b u v) : Is t b u v := ⟨⟨h.pos, h.low⟩, h.eq⟩
end Mt
namespace Mt
theorem Is.rat {t b u v : Int} (h : Is t b u v) (hb : b ≠ 0) : u = (Rat.divInt t b).num ∧ v = ((Rat.divInt t b).den : Int) := by
  have hv := h.fr.pos
  have hn : v.toNat ≠ 0 := by omega
  have hc : (v.toNat : Int) = v := Int.toNat_of_nonneg (by omega)
  have hco : u.natAbs.Coprime v.toNat := by
    have := h.fr.low
    have e : v.natAbs = v.toNat := by omega
    rw [cop, e] at this
    exact this
  have e1 := Rat.num_divInt_den ⟨u, v.toNat, hn, hco⟩
  dsimp only at e1
  rw [hc] at e1
  have e2 : Rat.divInt t b = Rat.divInt u v := (Rat.divInt_eq_divInt_iff hb (by omega)).mpr (by rw [h.eq])
  rw [e2, e1]
  exact ⟨rfl, hc.symm⟩
theorem Is.dvd {t b u v : Int} (h : Is t b u v) : v ∣ b ∧ u ∣ t := by
  have e := h.eq
  have c : Nat.Coprime u.natAbs v.natAbs := h.fr.low
  constructor
  · have d : v.natAbs ∣ u.natAbs * b.natAbs := by
      rw [← Int.natAbs_mul, e, Int.natAbs_mul]
      exact Nat.dvd_mul_left _ _
    exact Int.natAbs_dvd_natAbs.mp (c.symm.dvd_of_dvd_mul_left d)
  · have d : u.natAbs ∣ v.natAbs * t.natAbs := by
      rw [← Int.natAbs_mul, Int.mul_comm, ← e, Int.natAbs_mul]
      exact Nat.dvd_mul_right _ _
    exact Int.natAbs_dvd_natAbs.mp (c.dvd_of_dvd_mul_left d)
theorem fr_rat (a : Rat) : Fr a.num a.den := ⟨by have := a.den_nz; omega, by rw [cop]; exact a.reduced⟩
theorem den_pos (a : Rat) : (0 : Int) < a.den := by have := a.den_nz; omega
theorem den_ne (a : Rat) : (a.den : Int) ≠ 0 := by have := a.den_nz; omega
theorem rat_add (a b : Rat) : Rat.divInt (a.num * b.den + b.num * a.den) (a.den * b.den) = a + b := by
  rw [← Rat.divInt_add_divInt _ _ (den_ne a) (den_ne b), Rat.num_divInt_den, Rat.num_divInt_den]
theorem rat_mul (a b : Rat) : Rat.divInt (a.num * b.num) (a.den * b.den) = a * b := by
  rw [← Rat.divInt_mul_divInt, Rat.num_divInt_den, Rat.num_divInt_den]
theorem rat_is (t : Int) {b : Int} (hb : b ≠ 0) : (Rat.divInt t b).num * b = t * (Rat.divInt t b).den := by
  have h := Rat.num_divInt_den (Rat.divInt t b)
  exact ((Rat.divInt_eq_divInt_iff (den_ne _) hb).mp h)
theorem rat_isI (t : Int) {b : Int} (hb : b ≠ 0) : Is t b (Rat.divInt t b).num (Rat.divInt t b).den := ⟨fr_rat _, rat_is t hb⟩
theorem rat_le (t : Int) {b : Int} (hb : b ≠ 0) : (Rat.divInt t b).num.natAbs ≤ t.natAbs ∧ ((Rat.divInt t b).den : Int).natAbs ≤ b.natAbs := by
  obtain ⟨d1, d2⟩ := (rat_isI t hb).dvd
  refine ⟨?_, Nat.le_of_dvd (by omega) (Int.natAbs_dvd_natAbs.mpr d1)⟩
  by_cases ht : t = 0
  · have e := rat_is t hb
    rw [ht, Int.zero_mul] at e
    rcases Int.mul_eq_zero.mp e with z | z
    · rw [ht, z]; exact Nat.le_refl _
    · exact absurd z hb
  · exact Nat.le_of_dvd (by omega) (Int.natAbs_dvd_natAbs.mpr d2)
def Lat (D N : Nat) (q : Rat) : Prop := ∃ m : Int, q * ((D : Int) : Rat) = m ∧ m.natAbs ≤ N
theorem Lat.dvd {D N : Nat} {q : Rat} (h : Lat D N q) (hD : D ≠ 0) : q.den ∣ D ∧ q.num.natAbs ≤ N := by
  obtain ⟨m, e, hm⟩ := h
  have e2 : q = Rat.divInt m D := by
    rw [Rat.divInt_eq_div, ← e]
    have : ((D : Int) : Rat) ≠ 0 := by
      have : (D : Int) ≠ 0 := by omega
      exact fun z => this (Rat.intCast_inj.mp z)
    grind
  have hd : (D : Int) ≠ 0 := by omega
  have l := rat_le m hd
  have d := (rat_isI m hd).dvd.1
  rw [← e2] at l d
  exact ⟨Int.natCast_dvd_natCast.mp d, Nat.le_trans l.1 hm⟩
theorem Lat.le {D N : Nat} {q : Rat} (h : Lat D N q) (hD : D ≠ 0) : q.den ≤ D := Nat.le_of_dvd (by omega) (h.dvd hD).1
theorem Lat.add {D M N : Nat} {a b : Rat} (h : Lat D M a) (k : Lat D N b) : Lat D (M + N) (a + b) := by
  obtain ⟨m, e, hm⟩ := h
  obtain ⟨n, f, hn⟩ := k
  exact ⟨m + n, by rw [Rat.add_mul, e, f, Rat.intCast_add], by omega⟩
theorem Lat.neg {D M : Nat} {a : Rat} (h : Lat D M a) : Lat D M (-a) := by
  obtain ⟨m, e, hm⟩ := h
  exact ⟨-m, by rw [Rat.neg_mul, e, Rat.intCast_neg], by omega⟩
theorem Lat.mul {D E M N : Nat} {a b : Rat} (h : Lat D M a) (k : Lat E N b) : Lat (D * E) (M * N) (a * b) := by
  obtain ⟨m, e, hm⟩ := h
  obtain ⟨n, f, hn⟩ := k
  refine ⟨m * n, ?_, by rw [Int.natAbs_mul]; exact Nat.mul_le_mul hm hn⟩
  rw [Rat.intCast_mul, ← e, ← f, Int.natCast_mul, Rat.intCast_mul]
  grind
theorem Lat.mono {D M N : Nat} {a : Rat} (h : Lat D M a) (k : M ≤ N) : Lat D N a := by
  obtain ⟨m, e, hm⟩ := h
  exact ⟨m, e, Nat.le_trans hm k⟩
theorem Lat.zero {D N : Nat} : Lat D N 0 := ⟨0, by rw [Rat.zero_mul]; rfl, Nat.zero_le _⟩
theorem Lat.of (q : Rat) : Lat q.den q.num.natAbs q := ⟨q.num, by
  have e := Rat.num_divInt_den q
  rw [Rat.divInt_eq_div] at e
  have : ((q.den : Int) : Rat) ≠ 0 := fun z => den_ne q (Rat.intCast_inj.mp z)
  generalize ((q.den : Int) : Rat) = d at *
  generalize (q.num : Rat) = n at *
  grind, Nat.le_refl _⟩
theorem Lat.up {D E M : Nat} {a : Rat} (h : Lat D M a) : Lat (D * E) (M * E) a := by
  obtain ⟨m, e, hm⟩ := h
  refine ⟨m * E, ?_, by rw [Int.natAbs_mul]; exact Nat.mul_le_mul hm (Nat.le_refl _)⟩
  rw [Rat.intCast_mul, ← e, Int.natCast_mul, Rat.intCast_mul, Rat.mul_assoc]
theorem plus_rat (a b : Rat) :
    let p : Int := (Int.gcd a.den b.den : Nat)
    let t := a.num * (b.den : Int).fdiv p + b.num * (a.den : Int).fdiv p
    let r : Int := (Int.gcd t p : Nat)
    (t.fdiv r = (a + b).num ∧ (a.den : Int).fdiv p * (b.den : Int).fdiv r = ((a + b).den : Int)) ∧ 0 < p ∧ 0 < r ∧ p ≤ a.den ∧ p ≤ b.den ∧ r ≤ p ∧ ((b.den : Int).fdiv p).natAbs ≤ (b.den : Int).natAbs ∧ ((a.den : Int).fdiv p).natAbs ≤ (a.den : Int).natAbs ∧ ((b.den : Int).fdiv r).natAbs ≤ (b.den : Int).natAbs := by
  intro p t r
  have h := plus_ok (fr_rat a) (fr_rat b)
  refine ⟨?_, h.2⟩
  have z := h.1.rat (Int.mul_ne_zero (den_ne a) (den_ne b))
  rw [rat_add] at z
  exact z
theorem times_rat (a b : Rat) :
    let f : Int := (Int.gcd a.num b.den : Nat)
    let s : Int := (Int.gcd b.num a.den : Nat)
    (a.num.fdiv f * b.num.fdiv s = (a * b).num ∧ (a.den : Int).fdiv s * (b.den : Int).fdiv f = ((a * b).den : Int)) ∧ 0 < f ∧ 0 < s ∧ f ≤ b.den ∧ s ≤ a.den ∧ (a.num.fdiv f).natAbs ≤ a.num.natAbs ∧ (b.num.fdiv s).natAbs ≤ b.num.natAbs ∧ ((a.den : Int).fdiv s).natAbs ≤ (a.den : Int).natAbs ∧ ((b.den : Int).fdiv f).natAbs ≤ (b.den : Int).natAbs := by
  intro f s
  have h := times_ok (fr_rat a) (fr_rat b)
  refine ⟨?_, h.2⟩
  have z := h.1.rat (Int.mul_ne_zero (den_ne a) (den_ne b))
  rw [rat_mul] at z
  exact z
theorem inv_neg {b : Rat} (h : b.num < 0) : -(b.den : Int) = (b⁻¹).num ∧ -b.num = ((b⁻¹).den : Int) := by
  rw [Rat.inv_def]
  refine Is.rat ⟨⟨by omega, ?_⟩, by rw [Int.neg_mul, Int.mul_neg]⟩ (by omega)
  rw [Int.gcd_neg, Int.neg_gcd, Int.gcd_comm]
  exact (fr_rat b).low
theorem inv_pos {b : Rat} (h : 0 < b.num) : (b.den : Int) = (b⁻¹).num ∧ b.num = ((b⁻¹).den : Int) := by
  rw [Rat.inv_def]
  refine Is.rat ⟨⟨by omega, ?_⟩, rfl⟩ (by omega)
  rw [Int.gcd_comm]
  exact (fr_rat b).low
theorem low_pos {t b : Int} (h : 0 < b) : t.fdiv (Int.gcd t b : Nat) = (Rat.divInt t b).num ∧ b.fdiv (Int.gcd t b : Nat) = ((Rat.divInt t b).den : Int) := (red_pos h).is.rat (by omega)
theorem num_ne {b : Rat} (h : b ≠ 0) : b.num ≠ 0 := fun z => h (Rat.num_eq_zero.mp z)
theorem add_le (a b : Rat) : (a + b).num.natAbs ≤ (a.num * b.den + b.num * a.den).natAbs ∧ ((a + b).den : Int).natAbs ≤ ((a.den : Int) * b.den).natAbs := by
  rw [← rat_add]; exact rat_le _ (Int.mul_ne_zero (den_ne a) (den_ne b))
theorem mul_le (a b : Rat) : (a * b).num.natAbs ≤ (a.num * b.num).natAbs ∧ ((a * b).den : Int).natAbs ≤ ((a.den : Int) * b.den).natAbs := by
  rw [← rat_mul]; exact rat_le _ (Int.mul_ne_zero (den_ne a) (den_ne b))
end Mt
namespace L2
open PySem PySem.Spec PyProof.Rows
theorem Same.seqT {K : PySem.W.Frag} {H H' : Hp} {a : Addr} {xs : List V} (e : Same H H') (h : SqT K H a xs) : SqT K H' a xs := by
  rcases h with (h | ⟨o, h⟩) | h
  · exact .inl (.inl (e _ _ h))
  · exact .inl (.inr ⟨o, e _ _ h⟩)
  · exact .inr h
def frO (q : Rat) : HO := .tup [.int q.num, .int (q.den : Int)]
def Fq (K : PySem.W.Frag) (H : Hp) (p : Addr) (q : Rat) : Prop := SqT K H p [.int q.num, .int (q.den : Int)]
theorem Fq.of {K : PySem.W.Frag} {H : Hp} {p : Addr} {q : Rat} (h : H p = some (frO q)) : Fq K H p q := SqT.of h
theorem Fq.same {K : PySem.W.Frag} {H H' : Hp} {p : Addr} {q : Rat} (h : Fq K H p q) (e : Same H H') : Fq K H' p q := e.seqT h
def rFqI (K : PySem.W.Frag) : R2 := fun x y H Q => ∃ p a, x = .ref p ∧ Fq K H p a ∧ ((y = .int 0 ∧ Q (.int a.num) H) ∨ (y = .int 1 ∧ Q (.int (a.den : Int)) H))
theorem ix_fq {X : Cx} : IxR X (rFqI X.K) := by
  intro value slice pins s σ H x y v u Q I rx ry h hs
  obtain ⟨p, a, rfl, hq, ⟨rfl, q⟩ | ⟨rfl, q⟩⟩ := h
  · exact ix_tup value slice pins s σ H _ _ v u Q I rx ry ⟨p, _, 0, _, rfl, rfl, hq, rfl, q⟩ hs
  · exact ix_tup value slice pins s σ H _ _ v u Q I rx ry ⟨p, _, 1, _, rfl, rfl, hq, rfl, q⟩ hs
theorem frO_int (n : Int) : frO (n : Rat) = .tup [.int n, .int 1] := by simp [frO]
structure Sz (n : Nat) (q : Rat) : Prop where
  t : Bd n q.num
  b : Bd n (q.den : Int)
theorem Sz.mono {m n : Nat} {q : Rat} (h : Sz m q) (l : m ≤ n) : Sz n q := ⟨h.t.mono l, h.b.mono l⟩
theorem Sz.low {n : Nat} {t b : Int} (hb : b ≠ 0) (h1 : Bd n t) (h2 : Bd n b) : Sz n (Rat.divInt t b) := ⟨h1.le (Mt.rat_le t hb).1, h2.le (Mt.rat_le t hb).2⟩
theorem Sz.int {n : Nat} {t : Int} (h : Bd n t) (h1 : 1 ≤ n) : Sz n (t : Rat) := ⟨by simpa using h, by simp; exact Bd.mono (m := 1) (by show (_ : Nat) < _; decide) h1⟩
theorem Sz.add {m n : Nat} {a b : Rat} (ha : Sz m a) (hb : Sz n b) : Sz (m + n + 1) (a + b) := by
  refine ⟨?_, ?_⟩
  · refine Bd.le ?_ (Mt.add_le a b).1
    have h1 := ha.t.mul hb.b
    have h2 := hb.t.mul ha.b
    rw [Nat.add_comm n m] at h2
    exact h1.add h2
  · refine Bd.le ?_ (Mt.add_le a b).2
    exact (ha.b.mul hb.b).mono (by omega)
theorem Sz.mul {m n : Nat} {a b : Rat} (ha : Sz m a) (hb : Sz n b) : Sz (m + n) (a * b) :=
  ⟨Bd.le (ha.t.mul hb.t) (Mt.mul_le a b).1, Bd.le (ha.b.mul hb.b) (Mt.mul_le a b).2⟩
theorem Sz.neg {n : Nat} {a : Rat} (h : Sz n a) : Sz n (-a) := ⟨by rw [Rat.neg_num]; exact h.t.neg, by rw [Rat.neg_den]; exact h.b⟩
theorem Sz.sub {m n : Nat} {a b : Rat} (ha : Sz m a) (hb : Sz n b) : Sz (m + n + 1) (a - b) := by rw [Rat.sub_eq_add_neg]; exact ha.add hb.neg
theorem Bd.dv {i j : Int} {n : Nat} (h : Bd n j) (z : j ≠ 0) (l : n ≤ 9000 := by decide) : CDivB i j := ⟨z, h.mono l⟩
theorem Bd.mu {i j : Int} {m n : Nat} (h : Bd m i) (k : Bd n j) (l : m ≤ 100000 := by decide) (l' : n ≤ 100000 := by decide) : CMulB i j := ⟨h.mono l, k.mono l'⟩
theorem tSeq_step {t u : TS} {D : Ends} {σ : St} {H : Hp} (h : ∀ N : St → Hp → Prop, (∀ σ H, u D σ H → N σ H) → t { D with nx := N } σ H) : tSeq t u D σ H := h (u D) fun _ _ z => z
end L2
namespace Mt
def cf (l : List Rat) (n : Nat) : Rat := l.getD n 0
def trim : List Rat → List Rat
  | [] => []
  | a :: l => if trim l = [] ∧ a = 0 then [] else a :: trim l
def NZ (l : List Rat) : Prop := l = [] ∨ cf l (l.length - 1) ≠ 0
theorem cf_nil (n : Nat) : cf [] n = 0 := by simp [cf]
theorem cf_zero (a : Rat) (l : List Rat) : cf (a :: l) 0 = a := by simp [cf]
theorem cf_succ (a : Rat) (l : List Rat) (n : Nat) : cf (a :: l) (n + 1) = cf l n := by simp [cf]
theorem cf_ge {l : List Rat} {n : Nat} (h : l.length ≤ n) : cf l n = 0 := by simp [cf, List.getD, List.getElem?_eq_none h]
theorem cf_at {l : List Rat} {n : Nat} {x : Rat} (h : l[n]? = some x) : cf l n = x := by simp [cf, List.getD, h]
theorem cf_lt {l : List Rat} {n : Nat} (h : n < l.length) : l[n]? = some (cf l n) := by simp [cf, List.getD, h]
theorem cf_trim : ∀ (l : List Rat) (n : Nat), cf (trim l) n = cf l n
  | [], n => rfl
  | a :: l, n => by
    rw [trim]
    split
    · rename_i h
      cases n with
      | zero => rw [cf_zero, cf_nil, h.2]
      | succ n => rw [cf_succ, cf_nil, ← cf_trim l n, h.1, cf_nil]
    · cases n with
      | zero => rw [cf_zero, cf_zero]
      | succ n => rw [cf_succ, cf_succ, cf_trim l n]
theorem NZ.cons {a : Rat} {l : List Rat} (h : NZ l) (k : ¬ (l = [] ∧ a = 0)) : NZ (a :: l) := by
  right
  rcases h with h | h
  · subst h
    simp only [List.length_cons, List.length_nil, Nat.zero_add, Nat.sub_self, cf_zero]
    intro z; exact k ⟨rfl, z⟩
  · cases l with
    | nil => exact absurd (cf_nil _) h
    | cons b r =>
      simp only [List.length_cons, Nat.add_sub_cancel] at *
      rw [cf_succ]; exact h
theorem NZ_trim : ∀ l : List Rat, NZ (trim l)
  | [] => .inl rfl
  | a :: l => by
    rw [trim]
    split
    · exact .inl rfl
    · rename_i h; exact (NZ_trim l).cons h
theorem NZ.len {l m : List Rat} (hl : NZ l) (h : ∀ n, cf l n = cf m n) : l.length ≤ m.length := by
  rcases hl with rfl | hl
  · exact Nat.zero_le _
  · rcases Nat.lt_or_ge m.length l.length with z | z
    · rw [h, cf_ge (by omega)] at hl
      exact absurd rfl hl
    · exact z
theorem NZ.ext {l m : List Rat} (hl : NZ l) (hm : NZ m) (h : ∀ n, cf l n = cf m n) : l = m := by
  have e : l.length = m.length := Nat.le_antisymm (hl.len h) (hm.len fun n => (h n).symm)
  refine List.ext_getElem? fun i => ?_
  rcases Nat.lt_or_ge i l.length with z | z
  · rw [cf_lt z, cf_lt (l := m) (by omega), h]
  · rw [List.getElem?_eq_none z, List.getElem?_eq_none (by omega)]
theorem trim_NZ {l : List Rat} (h : NZ l) : trim l = l := (NZ_trim l).ext h fun n => cf_trim l n
theorem trim_len (l : List Rat) : (trim l).length ≤ l.length := (NZ_trim l).len fun n => cf_trim l n
theorem cf_take {l : List Rat} {k n : Nat} : cf (l.take k) n = if n < k then cf l n else 0 := by
  split
  · rename_i h; simp [cf, List.getD, List.getElem?_take, h]
  · rename_i h; simp [cf, List.getD, List.getElem?_take, h]
theorem take_trim {l : List Rat} {k : Nat} (hk : k ≤ l.length) (h0 : ∀ i, k ≤ i → cf l i = 0) (h1 : k = 0 ∨ cf l (k - 1) ≠ 0) : l.take k = trim l := by
  refine NZ.ext ?_ (NZ_trim l) fun n => ?_
  · rcases h1 with rfl | h1
    · exact .inl rfl
    · rcases Nat.eq_zero_or_pos k with rfl | hp
      · exact .inl rfl
      · right
        rw [List.length_take, Nat.min_eq_left hk, cf_take, if_pos (by omega)]
        exact h1
  · rw [cf_take, cf_trim]
    split
    · rfl
    · rename_i h; rw [h0 n (by omega)]
def addL (f g : List Rat) : List Rat := (List.range (max f.length g.length)).map fun n => cf f n + cf g n
theorem cf_map_range (m : Nat) (F : Nat → Rat) (n : Nat) : cf ((List.range m).map F) n = if n < m then F n else 0 := by
  split
  · rename_i h; simp [cf, List.getD, h]
  · rename_i h; exact cf_ge (by simp; omega)
theorem cf_addL (f g : List Rat) (n : Nat) : cf (addL f g) n = cf f n + cf g n := by
  rw [addL, cf_map_range]
  split
  · rfl
  · rename_i h; rw [cf_ge (l := f) (by omega), cf_ge (l := g) (by omega)]; grind
theorem cf_map (F : Rat → Rat) (h0 : F 0 = 0) (f : List Rat) (n : Nat) : cf (f.map F) n = F (cf f n) := by
  rcases Nat.lt_or_ge n f.length with z | z
  · exact cf_at (by rw [List.getElem?_map, cf_lt z]; rfl)
  · rw [cf_ge (by simpa using z), cf_ge z, h0]
theorem map_cf (F : Rat → Rat) (f : List Rat) : (List.range f.length).map (fun i => F (cf f i)) = f.map F := by
  refine List.ext_getElem? fun i => ?_
  rw [List.getElem?_map, List.getElem?_map]
  rcases Nat.lt_or_ge i f.length with z | z
  · rw [List.getElem?_range z, cf_lt z]; rfl
  · rw [List.getElem?_eq_none z, List.getElem?_eq_none (by simpa using z)]; rfl
def padd (f g : List Rat) : List Rat := trim (addL f g)
def pscale (f : List Rat) (a : Rat) : List Rat := trim (f.map (· * a))
def psub (f g : List Rat) : List Rat := padd f (pscale g (-1))
theorem cf_padd (f g : List Rat) (n : Nat) : cf (padd f g) n = cf f n + cf g n := by rw [padd, cf_trim, cf_addL]
theorem cf_pscale (f : List Rat) (a : Rat) (n : Nat) : cf (pscale f a) n = cf f n * a := by rw [pscale, cf_trim, cf_map _ (Rat.zero_mul a)]
theorem cf_psub (f g : List Rat) (n : Nat) : cf (psub f g) n = cf f n - cf g n := by
  rw [psub, cf_padd, cf_pscale]; grind
theorem NZ_psub (f g : List Rat) : NZ (psub f g) := NZ_trim _
end Mt
namespace Mt
def mc : List Rat → List Rat → Nat → Rat
  | [], _, _ => 0
  | a :: _, g, 0 => a * cf g 0
  | a :: f, g, n + 1 => a * cf g (n + 1) + mc f g n
theorem mc_nil_left (g : List Rat) (n : Nat) : mc [] g n = 0 := by cases n <;> rfl
theorem mc_ext : ∀ (f : List Rat) {g h : List Rat} (_ : ∀ n, cf g n = cf h n) (n : Nat), mc f g n = mc f h n
  | [], _, _, _, n => by rw [mc_nil_left, mc_nil_left]
  | a :: f, g, h, e, 0 => by rw [mc, mc, e]
  | a :: f, g, h, e, n + 1 => by rw [mc, mc, e, mc_ext f e n]
theorem mc_nil_right : ∀ (f : List Rat) (n : Nat), mc f [] n = 0
  | [], n => mc_nil_left _ n
  | a :: f, 0 => by rw [mc, cf_nil]; grind
  | a :: f, n + 1 => by rw [mc, cf_nil, mc_nil_right f n]; grind
theorem mc_cons_right : ∀ (f : List Rat) (b : Rat) (g : List Rat) (n : Nat), mc f (b :: g) n = cf f n * b + (match n with | 0 => 0 | n + 1 => mc f g n)
  | [], b, g, 0 => by rw [mc_nil_left, cf_nil]; grind
  | [], b, g, n + 1 => by rw [mc_nil_left, cf_nil]; simp only [mc_nil_left]; grind
  | a :: f, b, g, 0 => by rw [mc, cf_zero, cf_zero]; grind
  | a :: f, b, g, n + 1 => by
    rw [mc, cf_succ, mc_cons_right f b g n, cf_succ]
    cases n with
    | zero => simp only [mc]; grind
    | succ n => simp only [mc]; grind
theorem mc_comm : ∀ (f g : List Rat) (n : Nat), mc f g n = mc g f n
  | [], g, n => by rw [mc_nil_left, mc_nil_right]
  | a :: f, g, 0 => by rw [mc, mc_cons_right]; grind
  | a :: f, g, n + 1 => by rw [mc, mc_cons_right, mc_comm f g n]; grind
def addAt (l : List Rat) (k : Nat) (x : Rat) : List Rat := l.set k (cf l k + x)
def rowIn (l : List Rat) (i : Nat) (a : Rat) (g : List Rat) (j : Nat) : List Rat := (List.range j).foldl (fun l j => addAt l (i + j) (a * cf g j)) l
def prodIn (f g : List Rat) (i : Nat) : List Rat := (List.range i).foldl (fun l i => rowIn l i (cf f i) g g.length) (List.replicate (f.length + g.length) 0)
theorem rowIn_zero (l : List Rat) (i : Nat) (a : Rat) (g : List Rat) : rowIn l i a g 0 = l := rfl
theorem rowIn_succ (l : List Rat) (i : Nat) (a : Rat) (g : List Rat) (j : Nat) : rowIn l i a g (j + 1) = addAt (rowIn l i a g j) (i + j) (a * cf g j) := by simp [rowIn, List.range_succ]
theorem prodIn_zero (f g : List Rat) : prodIn f g 0 = List.replicate (f.length + g.length) 0 := rfl
theorem prodIn_succ (f g : List Rat) (i : Nat) : prodIn f g (i + 1) = rowIn (prodIn f g i) i (cf f i) g g.length := by simp [prodIn, List.range_succ]
theorem addAt_len (l : List Rat) (k : Nat) (x : Rat) : (addAt l k x).length = l.length := by simp [addAt]
theorem rowIn_len (l : List Rat) (i : Nat) (a : Rat) (g : List Rat) : ∀ j, (rowIn l i a g j).length = l.length
  | 0 => rfl
  | j + 1 => by rw [rowIn_succ, addAt_len, rowIn_len l i a g j]
theorem prodIn_len (f g : List Rat) : ∀ i, (prodIn f g i).length = f.length + g.length
  | 0 => by simp [prodIn_zero]
  | i + 1 => by rw [prodIn_succ, rowIn_len, prodIn_len f g i]
theorem cf_addAt {l : List Rat} {k : Nat} (h : k < l.length) (x : Rat) (n : Nat) : cf (addAt l k x) n = if n = k then cf l n + x else cf l n := by
  split
  · rename_i e; subst e
    exact cf_at (by simp [addAt, h])
  · rename_i e
    simp only [cf, addAt, List.getD]
    rw [List.getElem?_set_ne (by omega)]
theorem cf_rowIn {l : List Rat} {i : Nat} (a : Rat) (g : List Rat) (n : Nat) : ∀ j, i + j ≤ l.length → cf (rowIn l i a g j) n = cf l n + (if i ≤ n ∧ n < i + j then a * cf g (n - i) else 0)
  | 0, _ => by rw [rowIn_zero, if_neg (by omega)]; grind
  | j + 1, h => by
    rw [rowIn_succ, cf_addAt (by rw [rowIn_len]; omega), cf_rowIn a g n j (by omega)]
    by_cases e : n = i + j
    · rw [if_pos e, if_neg (by omega), if_pos (by omega), show n - i = j by omega]; grind
    · rw [if_neg e]
      by_cases e2 : i ≤ n ∧ n < i + j
      · rw [if_pos e2, if_pos (by omega)]
      · rw [if_neg e2, if_neg (by omega)]
theorem cf_replicate (m n : Nat) : cf (List.replicate m 0) n = 0 := by
  rcases Nat.lt_or_ge n m with z | z
  · exact cf_at (by simp [z])
  · exact cf_ge (by simpa using z)
theorem mc_take_succ : ∀ (f g : List Rat) (i n : Nat), i < f.length → mc (f.take (i + 1)) g n = mc (f.take i) g n + (if i ≤ n then cf f i * cf g (n - i) else 0)
  | [], g, i, n, h => by simp at h
  | a :: f, g, 0, n, h => by
    rw [List.take_succ_cons, List.take_zero, List.take_zero, mc_nil_left, if_pos (by omega), cf_zero]
    cases n with
    | zero => simp only [mc, Nat.sub_self]; grind
    | succ n => simp only [mc, mc_nil_left, Nat.sub_zero]; grind
  | a :: f, g, i + 1, 0, h => by
    rw [List.take_succ_cons, List.take_succ_cons, mc, mc, if_neg (by omega)]; grind
  | a :: f, g, i + 1, n + 1, h => by
    simp only [List.length_cons] at h
    rw [List.take_succ_cons, List.take_succ_cons, mc, mc, mc_take_succ f g i n (by omega), cf_succ]
    by_cases e : i ≤ n
    · rw [if_pos e, if_pos (by omega), show n + 1 - (i + 1) = n - i by omega]; grind
    · rw [if_neg e, if_neg (by omega)]; grind
theorem cf_prodIn (f g : List Rat) (n : Nat) : ∀ i, i ≤ f.length → cf (prodIn f g i) n = mc (f.take i) g n
  | 0, _ => by rw [prodIn_zero, cf_replicate, List.take_zero, mc_nil_left]
  | i + 1, h => by
    rw [prodIn_succ, cf_rowIn _ _ _ _ (by rw [prodIn_len]; omega), cf_prodIn f g n i (by omega), mc_take_succ f g i n (by omega)]
    congr 1
    by_cases e : i ≤ n ∧ n < i + g.length
    · rw [if_pos e, if_pos e.1]
    · rw [if_neg e]
      split
      · rw [cf_ge (l := g) (by omega)]; grind
      · rfl
def pmul (f g : List Rat) : List Rat := trim (prodIn f g f.length)
theorem cf_pmul (f g : List Rat) (n : Nat) : cf (pmul f g) n = mc f g n := by rw [pmul, cf_trim, cf_prodIn f g n _ (Nat.le_refl _), List.take_length]
end Mt
namespace HT
open PySem PyProof.Rows
section
variable {prog : Program} {w : World} {A : Around} {E : Value → Shared → Prop} {s : Shared}
theorem getItem_tuple_all {t sl : Addr} {items : Array Value} {vl vu : Value} {lo hi : Option Int} {Q : Value → Shared → Prop} (ht : IsTup s.heap t items) (hs : s.heap.IsSliceOf sl vl vu .none) (pl : IsPart vl lo) (pu : IsPart vu hi)
    (hw : sIx items.size 0 lo = 0 ∧ sIx items.size items.size hi = items.size) (h : Q (.ref t) s) : wpAny (model prog w) A (getItem (.ref t) (.ref sl)) Q E s := by
  obtain ⟨os, hos, hcs, hds⟩ := id hs
  have hTs : s.TypeIs (.ref sl) "slice" := ⟨os, hos, hcs⟩
  unfold getItem
  try with_reducible refine wpAny_holding ?_
  first | refine wpAny_bind (wpAny_pure ?_) | skip
  refine wpAny_bind (wpAny_sequenceKey ht.typeIs (by decide) ?_)
  refine wpAny_bind (wpAny_callSpecial?_slot (name := Str.ofString "__getitem__") ht.typeIs PyProof.Rows.slot_tuple_getitem
    (wpAny_call_entry PyProof.Rows.slot_tuple_getitem ht.typeIs entry_tuple_getitem ?_ (args_tuple_getitem _ _)))
  show wpAny _ _ (Builtin.Tuple.tupleItemsOf (.ref t) >>= _) _ _ s
  refine wpAny_bind (tupleItemsOf_ ht ?_)
  refine wpAny_bind (wpAny_typeOf hTs ?_)
  rw [if_pos (by decide)]
  refine wpAny_bind (sliceApplied_gen hs pl pu ?_)
  have hyes : (((sIx items.size 0 lo : Nat) : Int) == 0 && (1 : Int) == 1 && (sIx items.size items.size hi - sIx items.size 0 lo) == items.size) = true := by
    rw [hw.1, hw.2]; simp
  show wpAny _ _ (if (((sIx items.size 0 lo : Nat) : Int) == 0 && (1 : Int) == 1 && (sIx items.size items.size hi - sIx items.size 0 lo) == items.size) = true then _ else _) _ _ s
  rw [if_pos hyes]
  refine wpAny_bind ?_
  unfold Builtin.Tuple.tupleIsExact
  refine wpAny_bind (wpAny_typeOf ht.typeIs (wpAny_pure ?_))
  rw [if_pos (by decide)]
  refine wpAny_bind (wpAny_rule ?_)
  exact wpAny_pure ⟨_, rfl, wpAny_pure h⟩
end
end HT
namespace L2
open PySem PySem.Spec PyProof.Rows
def rSlTA (K : PySem.W.Frag) : V → Option Int → Option Int → Hp → VK → Prop := fun x lo hi H Q => ∃ a xs, x = .ref a ∧ SqT K H a xs ∧ ∀ p H', Same H H' → SqT K H' p (cutV xs lo hi) → Q (.ref p) H'
theorem sl_tupA {X : Cx} : SlR X (rSlTA X.K) := by
  intro pins s σ H x v vl vu lo hi sl Q I rx hs pl pu h
  obtain ⟨a, xs, e, hx, q⟩ := h
  subst e
  by_cases hw : HT.sIx xs.length 0 lo = 0 ∧ HT.sIx xs.length xs.length hi = xs.length
  · cases rx
    obtain ⟨its, r, ht, hz⟩ := I.tuple hx
    have hlen : its.toArray.size = xs.length := by rw [List.size_toArray]; exact r.length.symm
    refine ⟨"tuple", _, PyProof.Rows.slot_tuple_getitem.lookup, ht.typeIs, ?_⟩
    refine HT.getItem_tuple_all ht hs pl pu (by rw [hlen]; exact hw) ⟨.ref a, H, I, rfl, q a H (Same.refl H) ?_⟩
    have e : cutV xs lo hi = xs := by unfold cutV; rw [hw.1, hw.2]; simp
    rw [e]; exact hx
  · exact sl_tup pins s σ H (.ref a) v vl vu lo hi sl Q I rx hs pl pu ⟨a, xs, rfl, hx, hw, fun p hp => q p _ (same_upd hp) (SqT.of upd_same)⟩
theorem cutV_to (xs : List V) (k : Nat) (h : k ≤ xs.length) : cutV xs none (some (k : Int)) = xs.take k := by
  unfold cutV
  rw [HT.sIx_none, HT.sIx_nat, Nat.min_eq_left h]
  simp
theorem cutV_from (xs : List V) (k : Nat) (h : k ≤ xs.length) : cutV xs (some (k : Int)) none = xs.drop k := by
  unfold cutV
  rw [HT.sIx_none, HT.sIx_nat, Nat.min_eq_left h, List.take_of_length_le (by simp)]
theorem atI_end {α : Type} {xs : List α} {v : α} (h : xs[xs.length - 1]? = some v) : atI xs (-1) = some v := by
  have hne : xs ≠ [] := by rintro rfl; simp at h
  have e := List.dropLast_concat_getLast hne
  rw [← e, atI_last]
  rw [List.getLast_eq_getElem hne]
  obtain ⟨h1, h2⟩ := List.getElem?_eq_some_iff.mp h
  exact congrArg some h2
theorem pe_comp2 {X : Cx} {elt iter tg : Expr} {scope : Scope} (Nl : List Str) (y1 : Str) (j1 : Nat) (y2 : Str) (j2 : Nat) {c1 c2 : Addr} {wi : TI} {g : TG} {te : TE} {pos : Pos} (hc : X.calm = true) (hi : PI X tg iter wi)
    (hg : ∀ C s₀ H₀ ex pn, PG (X.cp (Nl ++ [y1, y2]) scope [(y1, c1), (y2, c2)] C s₀ H₀ ex pn) tg g) (he : ∀ C s₀ H₀ ex pn, PE (X.cp (Nl ++ [y1, y2]) scope [(y1, c1), (y2, c2)] C s₀ H₀ ex pn) elt te)
    (hclos : closureFor scope X.env = pure [(y1, c1), (y2, c2)]) (hy1 : X.env.cells.lookup y1 = some c1) (hy2 : X.env.cells.lookup y2 = some c2) (hN1 : X.N[j1]? = some y1) (hN2 : X.N[j2]? = some y2)
    (hk1 : X.env.kindOf y1 = some .cell) (hk2 : X.env.kindOf y2 = some .cell) (hb1 : (relabel scope X.env).names.lookup y1 = some .cell) (hb2 : (relabel scope X.env).names.lookup y2 = some .cell)
    (hne : y2 ≠ y1 := by decide) (h1 : ∀ p ∈ scope.names, p.2 = .free → p.1 = y1 ∨ p.1 = y2 := by decide +kernel) (hcell : ∀ y ∈ scope.names, y.2 ≠ .cell := by decide +kernel) (hkind : scope.kind = .function := by rfl)
    (hnames : ∀ y ∈ scope.names, y.2 = .local → scope.names.lookup y.1 = some .local := by decide +kernel)
    (hs : ∀ x, foldedSetIterable iter X.env x = pure x := by intro _; rfl) : PCo X (.ListComp elt [⟨tg, iter, [], 0⟩] scope pos) scope iter (tComp ((Nl.map fun _ => none) ++ [some j1, some j2]) wi g te) := by
  have self1 : List.lookup y1 [(y1, c1), (y2, c2)] = some c1 := by simp
  have self2 : List.lookup y2 [(y1, c1), (y2, c2)] = some c2 := by
    rw [List.lookup_cons, show (y2 == y1) = false from beq_eq_false_iff_ne.mpr hne]; simp
  have look : ∀ z d, List.lookup z [(y1, c1), (y2, c2)] = some d → (z = y1 ∧ d = c1) ∨ (z = y2 ∧ d = c2) := fun z d h => by
    have m := PySem.mem_of_lookup h
    rcases List.mem_cons.mp m with q | q
    · cases q; exact .inl ⟨rfl, rfl⟩
    · cases List.mem_singleton.mp q; exact .inr ⟨rfl, rfl⟩
  refine pe_comp (cl := [(y1, c1), (y2, c2)]) (Nc := Nl ++ [y1, y2]) hc hi hg he (by simp) (fun z d h => ?_) (fun z h => ?_) (fun i z j' e1 e2 => ?_) hclos hcell hkind hnames hs
  · rcases look z d h with ⟨rfl, rfl⟩ | ⟨rfl, rfl⟩
    · exact hy1
    · exact hy2
  · have m := h.elim (fun q => rel_mem q (.inl rfl) hcell) fun q => rel_mem q (.inr rfl) hcell
    rcases h1 _ m rfl with e | e
    · have e : z = y1 := e
      subst e; exact ⟨c1, self1⟩
    · have e : z = y2 := e
      subst e; exact ⟨c2, self2⟩
  · have hi : i = Nl.length ∨ i = Nl.length + 1 := by
      by_cases hlt : i < Nl.length
      · rw [List.getElem?_append_left (by simpa using hlt), List.getElem?_map] at e2
        cases q : Nl[i]? with
        | none => rw [q] at e2; cases e2
        | some z => rw [q] at e2; cases e2
      · have := (List.getElem?_eq_some_iff.mp e1).1
        simp at this
        omega
    rcases hi with rfl | rfl
    · have a1 : (Nl ++ [y1, y2])[Nl.length]? = some y1 := by simp
      have a2 : ((Nl.map fun _ => (none : Option Nat)) ++ [some j1, some j2])[Nl.length]? = some (some j1) := by
        rw [List.getElem?_append_right (by simp)]; simp
      rw [a1] at e1; cases e1
      rw [a2] at e2; cases e2
      exact ⟨hN1, .inr (.inl hk1), by rw [hk1]; exact (fun q => nomatch q), .inl hb1, fun d h => by rw [hy1] at h; cases h; exact self1⟩
    · have a1 : (Nl ++ [y1, y2])[Nl.length + 1]? = some y2 := by
        rw [List.getElem?_append_right (by omega)]; simp
      have a2 : ((Nl.map fun _ => (none : Option Nat)) ++ [some j1, some j2])[Nl.length + 1]? = some (some j2) := by
        rw [List.getElem?_append_right (by simp)]; simp
      rw [a1] at e1; cases e1
      rw [a2] at e2; cases e2
      exact ⟨hN2, .inr (.inl hk2), by rw [hk2]; exact (fun q => nomatch q), .inl hb2, fun d h => by rw [hy2] at h; cases h; exact self2⟩
mutual
theorem Rep.same {K : PySem.W.Frag} {H H' : Hp} (e : Same H H') : ∀ (d : Dt) (v : V), Rep K H d v → Rep K H' d v := by
  intro d v h
  match d with
  | .non => simp only [Rep] at *; exact h
  | .bl _ => simp only [Rep] at *; exact h
  | .int _ => simp only [Rep] at *; exact h
  | .str _ => simp only [Rep] at *; exact h
  | .tup l => simp only [Rep] at *; obtain ⟨a, xs, rfl, s, r⟩ := h; exact ⟨a, xs, rfl, e.seqT s, Reps.same e l xs r⟩
  | .lst l => simp only [Rep] at *; obtain ⟨a, xs, rfl, s, r⟩ := h; exact ⟨a, xs, rfl, e.seq s, Reps.same e l xs r⟩
theorem Reps.same {K : PySem.W.Frag} {H H' : Hp} (e : Same H H') : ∀ (l : List Dt) (xs : List V), Reps K H l xs → Reps K H' l xs := by
  intro l xs h
  match l with
  | [] => simp only [Reps] at *; exact h
  | d :: l => simp only [Reps] at *; obtain ⟨x, r, rfl, h1, h2⟩ := h; exact ⟨x, r, rfl, Rep.same e d x h1, Reps.same e l r h2⟩
end
def frD (q : Rat) : Dt := .tup [.int q.num, .int (q.den : Int)]
def polyD (f : List Rat) : Dt := .tup (f.map frD)
def lstD (f : List Rat) : Dt := .lst (f.map frD)
theorem rep_fr {K : PySem.W.Frag} {H : Hp} {p : Addr} {q : Rat} (h : Fq K H p q) : Rep K H (frD q) (.ref p) := by
  simp only [frD, Rep, Reps]
  exact ⟨p, _, rfl, h, _, _, rfl, rfl, _, _, rfl, rfl, rfl⟩
theorem rep_fr' {K : PySem.W.Frag} {H : Hp} {v : V} {q : Rat} (h : Rep K H (frD q) v) : ∃ p, v = .ref p ∧ Fq K H p q := by
  simp only [frD, Rep, Reps] at h
  obtain ⟨p, xs, rfl, s, x, r, rfl, rfl, y, r2, rfl, rfl, rfl⟩ := h
  exact ⟨p, rfl, s⟩
theorem frD_eqb (a b : Rat) : (frD a).eqb (frD b) = decide (a = b) := by
  simp only [frD, Dt.eqb, Dt.eqbs, Bool.and_true]
  rw [Bool.eq_iff_iff]
  simp only [Bool.and_eq_true, beq_iff_eq, decide_eq_true_eq]
  constructor
  · rintro ⟨h1, h2⟩
    exact Rat.ext h1 (by omega)
  · rintro rfl; exact ⟨rfl, rfl⟩
theorem frDs_eqb : ∀ f g : List Rat, Dt.eqbs (f.map frD) (g.map frD) = decide (f = g)
  | [], [] => by simp [Dt.eqbs]
  | [], b :: g => by simp [Dt.eqbs]
  | a :: f, [] => by simp [Dt.eqbs]
  | a :: f, b :: g => by
    rw [List.map_cons, List.map_cons, Dt.eqbs, frD_eqb, frDs_eqb f g]
    by_cases h1 : a = b <;> by_cases h2 : f = g <;> simp [h1, h2]
theorem frD_sim (a b : Rat) : (frD a).sim (frD b) = true := by simp [frD, Dt.sim, Dt.sims]
theorem frDs_sim : ∀ f g : List Rat, Dt.sims (f.map frD) (g.map frD) = true
  | [], [] => by simp [Dt.sims]
  | [], b :: g => by simp [Dt.sims]
  | a :: f, [] => by simp [Dt.sims]
  | a :: f, b :: g => by rw [List.map_cons, List.map_cons, Dt.sims, frD_sim, frDs_sim f g]; rfl
theorem frD_dep (a : Rat) : (frD a).dep = 1 := by simp [frD, Dt.dep, Dt.deps]
theorem frDs_dep : ∀ f : List Rat, Dt.deps (f.map frD) ≤ 1
  | [] => by simp [Dt.deps]
  | a :: f => by rw [List.map_cons, Dt.deps, frD_dep]; exact Nat.max_le.mpr ⟨Nat.le_refl _, frDs_dep f⟩
section
variable {K : PySem.W.Frag} {H : Hp} {x y : V} {Q : VK}
theorem fr_cmp {ne : Bool} {a b : Rat} (h1 : Rep K H (frD a) x) (h2 : Rep K H (frD b) y) (q : Q (.bl (if ne then !decide (a = b) else decide (a = b))) H) : rEqD K ne x y H Q :=
  ⟨_, _, h1, h2, frD_sim a b, by rw [frD_dep]; decide, by rw [frD_dep]; decide, by rw [frD_eqb]; exact q⟩
theorem poly_cmp {ne : Bool} {f g : List Rat} (h1 : Rep K H (polyD f) x) (h2 : Rep K H (polyD g) y) (q : Q (.bl (if ne then !decide (f = g) else decide (f = g))) H) : rEqD K ne x y H Q :=
  ⟨_, _, h1, h2, by rw [polyD, polyD, Dt.sim]; exact frDs_sim f g, by rw [polyD, Dt.dep]; omega, by rw [polyD, Dt.dep]; have := frDs_dep f; omega, by rw [polyD, polyD, Dt.eqb, frDs_eqb]; exact q⟩
end
def rIsiT (K : PySem.W.Frag) : List V → Hp → VK → Prop := fun xs H Q => ∃ a ys c cv b, xs = [.ref a, c] ∧ clsV c = some cv ∧ SqT K H a ys ∧ PySem.W.kitOne K (.type "tuple") cv = some b ∧ Q (.bl b) H
theorem call_isiT {X : Cx} : CallR X (.builtin "isinstance") (rIsiT X.K) := by
  intro pins s σ H xs us Q I r h
  obtain ⟨a, ys, c, cv, b, rfl, hc, hq, hk, q⟩ := h
  obtain ⟨u, u', rfl, r1, r2⟩ := vals2 r
  have e2 : u' = cv := by
    cases c with
    | ref C => cases hc; exact r2
    | ty n => cases hc; exact r2
    | _ => cases hc
  subst e2
  cases (show u = Value.ref a from r1)
  obtain ⟨its, _, ⟨o, h1, h2, _⟩, _⟩ := I.tuple hq
  exact PySem.W.kia_one PySem.W.kitx_tuple I.kIn ⟨o, h1, h2⟩ hk (fun z => nomatch z) fun tk => ⟨.bl b, H, I.tok tk, rfl, q⟩
theorem isi_sq {K : PySem.W.Frag} {H : Hp} {Q : VK} {a : Addr} {ys : List V} (h : SqT K H a ys) (q : Q (.bl true) H) : rIsiT K [.ref a, .ty "tuple"] H Q := ⟨a, ys, _, _, true, rfl, rfl, h, kit_tup_tup K, q⟩
def Frs (K : PySem.W.Frag) (H : Hp) (f : List Rat) (xs : List V) : Prop := Reps K H (f.map frD) xs
theorem SqT.updL {K : PySem.W.Frag} {H : Hp} {D p : Addr} {ys xs : List V} {o : HO} (hD : H D = some (.lst ys)) (h : SqT K H p xs) : SqT K (upd H D o) p xs := by
  rcases h with (h | ⟨u, h⟩) | h
  · exact .inl (.inl (by rw [upd_ne (by rintro rfl; rw [hD] at h; cases h)]; exact h))
  · exact .inl (.inr ⟨u, by rw [upd_ne (by rintro rfl; rw [hD] at h; cases h)]; exact h⟩)
  · exact .inr h
theorem Frs.same {K : PySem.W.Frag} {H H' : Hp} {f : List Rat} {xs : List V} (h : Frs K H f xs) (e : Same H H') : Frs K H' f xs := Reps.same e _ _ h
theorem Frs.nil {K : PySem.W.Frag} {H : Hp} : Frs K H [] [] := by simp [Frs, Reps]
theorem Frs.cons {K : PySem.W.Frag} {H : Hp} {q : Rat} {f : List Rat} {p : Addr} {xs : List V} (h : Fq K H p q) (k : Frs K H f xs) : Frs K H (q :: f) (.ref p :: xs) := by
  simp only [Frs, List.map_cons, Reps]
  exact ⟨_, _, rfl, rep_fr h, k⟩
theorem Frs.uncons {K : PySem.W.Frag} {H : Hp} {q : Rat} {f : List Rat} {xs : List V} (h : Frs K H (q :: f) xs) : ∃ p ys, xs = .ref p :: ys ∧ Fq K H p q ∧ Frs K H f ys := by
  simp only [Frs, List.map_cons, Reps] at h
  obtain ⟨x, r, rfl, h1, h2⟩ := h
  obtain ⟨p, rfl, h3⟩ := rep_fr' h1
  exact ⟨p, r, rfl, h3, h2⟩
theorem Frs.len {K : PySem.W.Frag} {H : Hp} {f : List Rat} {xs : List V} (h : Frs K H f xs) : f.length = xs.length := by
  have := Reps.len h
  simpa using this
theorem Frs.at {K : PySem.W.Frag} {H : Hp} {f : List Rat} {xs : List V} (h : Frs K H f xs) {j : Nat} (hj : j < f.length) : ∃ p, xs[j]? = some (.ref p) ∧ Fq K H p (Mt.cf f j) := by
  obtain ⟨x, e, r⟩ := Reps.at (d := frD (Mt.cf f j)) h (by rw [List.getElem?_map, Mt.cf_lt hj]; rfl)
  obtain ⟨p, rfl, q⟩ := rep_fr' r
  exact ⟨p, e, q⟩
theorem Frs.snoc {K : PySem.W.Frag} {H : Hp} {q : Rat} {p : Addr} : ∀ {f : List Rat} {xs : List V}, Frs K H f xs → Fq K H p q → Frs K H (f ++ [q]) (xs ++ [.ref p])
  | [], xs, h, k => by
    have e : xs = [] := by simpa [Frs, Reps] using h
    subst e
    exact Frs.cons k Frs.nil
  | a :: f, xs, h, k => by
    obtain ⟨r, ys, rfl, h1, h2⟩ := h.uncons
    exact Frs.cons h1 (Frs.snoc h2 k)
theorem Frs.updL {K : PySem.W.Frag} {H : Hp} {D : Addr} {ys : List V} {o : HO} (hD : H D = some (.lst ys)) : ∀ {f : List Rat} {xs : List V}, Frs K H f xs → Frs K (upd H D o) f xs
  | [], xs, h => by
    have e : xs = [] := by simpa [Frs, Reps] using h
    subst e
    exact Frs.nil
  | a :: f, xs, h => by
    obtain ⟨r, zs, rfl, h1, h2⟩ := h.uncons
    exact Frs.cons (SqT.updL hD h1) (Frs.updL hD h2)
theorem Frs.take {K : PySem.W.Frag} {H : Hp} : ∀ {f : List Rat} {xs : List V} (k : Nat), Frs K H f xs → Frs K H (f.take k) (xs.take k)
  | [], xs, k, h => by
    have e : xs = [] := by simpa [Frs, Reps] using h
    subst e
    simp only [List.take_nil]; exact Frs.nil
  | a :: f, xs, 0, h => by simp only [List.take_zero]; exact Frs.nil
  | a :: f, xs, k + 1, h => by
    obtain ⟨r, zs, rfl, h1, h2⟩ := h.uncons
    simp only [List.take_succ_cons]
    exact Frs.cons h1 (Frs.take k h2)
theorem Frs.drop {K : PySem.W.Frag} {H : Hp} : ∀ {f : List Rat} {xs : List V} (k : Nat), Frs K H f xs → Frs K H (f.drop k) (xs.drop k)
  | [], xs, k, h => by
    have e : xs = [] := by simpa [Frs, Reps] using h
    subst e
    simp only [List.drop_nil]; exact Frs.nil
  | a :: f, xs, 0, h => h
  | a :: f, xs, k + 1, h => by
    obtain ⟨r, zs, rfl, h1, h2⟩ := h.uncons
    simp only [List.drop_succ_cons]
    exact Frs.drop k h2
theorem Frs.append {K : PySem.W.Frag} {H : Hp} : ∀ {f g : List Rat} {xs ys : List V}, Frs K H f xs → Frs K H g ys → Frs K H (f ++ g) (xs ++ ys)
  | [], g, xs, ys, h, k => by
    have e : xs = [] := by simpa [Frs, Reps] using h
    subst e
    exact k
  | a :: f, g, xs, ys, h, k => by
    obtain ⟨r, zs, rfl, h1, h2⟩ := h.uncons
    exact Frs.cons h1 (Frs.append h2 k)
theorem Frs.set {K : PySem.W.Frag} {H : Hp} {q : Rat} {p : Addr} : ∀ {f : List Rat} {xs : List V} (k : Nat), Frs K H f xs → Fq K H p q → Frs K H (f.set k q) (xs.set k (.ref p))
  | [], xs, k, h, _ => by
    have e : xs = [] := by simpa [Frs, Reps] using h
    subst e
    exact Frs.nil
  | a :: f, xs, 0, h, z => by
    obtain ⟨r, zs, rfl, h1, h2⟩ := h.uncons
    exact Frs.cons z h2
  | a :: f, xs, k + 1, h, z => by
    obtain ⟨r, zs, rfl, h1, h2⟩ := h.uncons
    exact Frs.cons h1 (Frs.set k h2 z)
theorem Frs.replicate {K : PySem.W.Frag} {H : Hp} {q : Rat} {p : Addr} (h : Fq K H p q) : ∀ n, Frs K H (List.replicate n q) (List.replicate n (.ref p))
  | 0 => Frs.nil
  | n + 1 => Frs.cons h (Frs.replicate h n)
def Pl (K : PySem.W.Frag) (H : Hp) (p : Addr) (f : List Rat) : Prop := ∃ xs, SqT K H p xs ∧ Frs K H f xs
theorem Pl.rep {K : PySem.W.Frag} {H : Hp} {p : Addr} {f : List Rat} (h : Pl K H p f) : Rep K H (polyD f) (.ref p) := by
  obtain ⟨xs, h1, h2⟩ := h
  simp only [polyD, Rep]
  exact ⟨p, xs, rfl, h1, h2⟩
theorem Pl.same {K : PySem.W.Frag} {H H' : Hp} {p : Addr} {f : List Rat} (h : Pl K H p f) (e : Same H H') : Pl K H' p f := let ⟨xs, h1, h2⟩ := h; ⟨xs, e.seqT h1, h2.same e⟩
theorem Pl.updL {K : PySem.W.Frag} {H : Hp} {D p : Addr} {ys : List V} {o : HO} {f : List Rat} (hD : H D = some (.lst ys)) (h : Pl K H p f) : Pl K (upd H D o) p f := let ⟨xs, h1, h2⟩ := h; ⟨xs, h1.updL hD, h2.updL hD⟩
theorem Same.updL {H0 H : Hp} {D : Addr} {o : HO} (e : Same H0 H) (h : H0 D = none) : Same H0 (upd H D o) := fun b u z => by
  rw [upd_ne (ne_of_none z h)]; exact e b u z
theorem CO.frs {K : PySem.W.Frag} {n : Nat} {src : Nat → Hp → V → Prop} {st : Hp → Prop} {js : List (Option Nat)} {tl : TE} {σ : St} {H1 : Hp} {Q : VK} (F : Nat → Rat) (hn : n ≤ 1000) (hst : ∀ H, Same H1 H → st H)
    (hel : ∀ i H x (R : VK), i < n → Same H1 H → src i H x → (∀ r H3, Same H H3 → Fq K H3 r (F i) → R (.ref r) H3) → tl (some x :: cσ js σ) H R)
    (hq : ∀ D H xs, Same H1 H → H1 D = none → H D = some (.lst xs) → Frs K H ((List.range n).map F) xs → Q (.ref D) H) : CO n src st (none :: js) (gName 0) tl σ H1 Q := by
  intro D hD
  refine ⟨fun i ys σc H => (∃ r, σc = r :: cσ js σ) ∧ Same H1 H ∧ H D = some (.lst ys) ∧ Frs K H ((List.range i).map F) ys, ⟨⟨none, rfl⟩, same_upd hD, upd_same, Frs.nil⟩, fun i ys σc H _ h => hst H h.2.1, ?_, ?_⟩
  · rintro i ys σc H x hi ⟨⟨r, rfl⟩, sm, hd, hf⟩ hx
    refine hel i H x _ hi sm hx fun p H3 s3 hy => ?_
    have hl := hf.len
    refine ⟨s3 _ _ hd, small1000 (by simp at hl; omega), ⟨_, rfl⟩, (sm.trans s3).updL hD, upd_same, ?_⟩
    rw [List.range_succ, List.map_append]
    exact Frs.snoc (Frs.updL (s3 _ _ hd) (hf.same s3)) (SqT.updL (s3 _ _ hd) hy)
  · rintro ys σc H ⟨_, sm, hd, hf⟩
    exact ⟨hd, hq D H ys sm hD hd hf⟩
theorem Sz.zero {n : Nat} (h : 1 ≤ n) : Sz n (0 : Rat) := Sz.mono (m := 1) ⟨by show (_ : Nat) < _; decide, by show (_ : Nat) < _; decide⟩ h
theorem Sz.cf {n : Nat} {f : List Rat} (h : ∀ q ∈ f, Sz n q) (hn : 1 ≤ n) (k : Nat) : Sz n (Mt.cf f k) := by
  rcases Nat.lt_or_ge k f.length with z | z
  · exact h _ (List.mem_of_getElem? (Mt.cf_lt z))
  · rw [Mt.cf_ge z]; exact Sz.zero hn
theorem Pl.nil {K : PySem.W.Frag} {H : Hp} {p : Addr} (h : H p = some (.tup [])) : Pl K H p [] := ⟨[], SqT.of h, Frs.nil⟩
theorem rep_lst {K : PySem.W.Frag} {H : Hp} {p : Addr} {f : List Rat} {xs : List V} (h : H p = some (.lst xs)) (k : Frs K H f xs) : Rep K H (lstD f) (.ref p) := by
  simp only [lstD, Rep]
  exact ⟨p, xs, rfl, SqL.of h, k⟩
def frIn (K : PySem.W.Frag) (a : Addr) (t b : Int) : Bool := match K.lookup a with
  | some o => (match o.cls, o.data with
    | .type "tuple", .seq its _ => (match its.toList with | [.int x _, .int y _] => x == t && y == b | _ => false)
    | _, _ => false)
  | none => false
theorem frIn_sq {K : PySem.W.Frag} {a : Addr} {t b : Int} (h : frIn K a t b = true) (H : Hp) : SqT K H a [.int t, .int b] := by
  unfold frIn at h
  split at h
  · rename_i o e
    split at h
    · rename_i its n hc hd
      split at h
      · rename_i x tx y ty hl
        obtain ⟨h1, h2⟩ := Bool.and_eq_true_iff.mp h
        have h1 : x = t := by simpa using h1
        have h2 : y = b := by simpa using h2
        subst h1 h2
        refine .inr ⟨o, its, n, e, hc, hd, ?_, ?_⟩
        · have : its.size = 2 := by rw [← Array.length_toList, hl]; rfl
          rw [this]; exact sz_le 2 (by decide)
        · rw [hl]; exact .cons ⟨_, rfl⟩ (.cons ⟨_, rfl⟩ .nil)
      · cases h
    · cases h
  · cases h
end L2
namespace Mt
structure Ln (d n : Nat) (f : List Rat) : Prop where
  ex : ∃ D N : Nat, 0 < D ∧ D ≤ 2 ^ d ∧ N ≤ 2 ^ n ∧ ∀ k, Lat D N (cf f k)
theorem Ln.bits {d n : Nat} {f : List Rat} (h : Ln d n f) (k : Nat) : (cf f k).num.natAbs < 2 ^ (n + 1) ∧ ((cf f k).den : Int).natAbs < 2 ^ (d + 1) := by
  obtain ⟨D, N, h1, h2, h3, h4⟩ := h.ex
  have a := ((h4 k).dvd (by omega)).2
  have b := (h4 k).le (by omega)
  rw [Nat.pow_succ, Nat.pow_succ]
  constructor
  · have : 0 < 2 ^ n := Nat.two_pow_pos n
    omega
  · have : 0 < 2 ^ d := Nat.two_pow_pos d
    omega
theorem Ln.ext {d n : Nat} {f g : List Rat} (h : Ln d n f) (e : ∀ k, cf g k = cf f k) : Ln d n g := by
  obtain ⟨D, N, h1, h2, h3, h4⟩ := h.ex
  exact ⟨D, N, h1, h2, h3, fun k => by rw [e]; exact h4 k⟩
theorem Ln.trim {d n : Nat} {f : List Rat} (h : Ln d n f) : Ln d n (trim f) := h.ext fun k => cf_trim f k
theorem Ln.mono {d n d' n' : Nat} {f : List Rat} (h : Ln d n f) (hd : d ≤ d') (hn : n ≤ n') : Ln d' n' f := by
  obtain ⟨D, N, h1, h2, h3, h4⟩ := h.ex
  exact ⟨D, N, h1, Nat.le_trans h2 (Nat.pow_le_pow_right (by decide) hd), Nat.le_trans h3 (Nat.pow_le_pow_right (by decide) hn), h4⟩
theorem Ln.of {m : Nat} : ∀ (f : List Rat), (∀ q ∈ f, q.num.natAbs < 2 ^ m ∧ (q.den : Int).natAbs < 2 ^ m) → Ln (m * f.length) (m * f.length) f
  | [], _ => ⟨1, 0, by decide, by simp, by simp, fun k => by rw [cf_nil]; exact Lat.zero⟩
  | a :: f, h => by
    obtain ⟨D, N, h1, h2, h3, h4⟩ := (Ln.of f fun q hq => h q (List.mem_cons_of_mem _ hq)).ex
    obtain ⟨a1, a2⟩ := h a (List.mem_cons_self ..)
    have ad : a.den ≤ 2 ^ m := by omega
    have an : a.num.natAbs ≤ 2 ^ m := by omega
    have e : 2 ^ (m * (a :: f).length) = 2 ^ m * 2 ^ (m * f.length) := by rw [List.length_cons, Nat.mul_succ, Nat.pow_add, Nat.mul_comm]
    refine ⟨a.den * D, 2 ^ m * 2 ^ (m * f.length), Nat.mul_pos (Nat.pos_of_ne_zero a.den_nz) h1, by rw [e]; exact Nat.mul_le_mul ad h2, by rw [e]; exact Nat.le_refl _, fun k => ?_⟩
    cases k with
    | zero => rw [cf_zero]; exact (Lat.of a).up.mono (Nat.mul_le_mul an h2)
    | succ k =>
      rw [cf_succ]
      have := (h4 k).up (E := a.den)
      rw [Nat.mul_comm D] at this
      refine this.mono ?_
      rw [Nat.mul_comm]
      exact Nat.mul_le_mul ad h3
theorem Ln.padd {d n e m : Nat} {f g : List Rat} (h : Ln d n f) (k : Ln e m g) : Ln (d + e) (n + e + (m + d) + 1) (padd f g) := by
  obtain ⟨D, N, h1, h2, h3, h4⟩ := h.ex
  obtain ⟨E, M, k1, k2, k3, k4⟩ := k.ex
  refine ⟨D * E, N * E + M * D, Nat.mul_pos h1 k1, by rw [Nat.pow_add]; exact Nat.mul_le_mul h2 k2, ?_, fun i => ?_⟩
  · have a : N * E ≤ 2 ^ (n + e) := by rw [Nat.pow_add]; exact Nat.mul_le_mul h3 k2
    have b : M * D ≤ 2 ^ (m + d) := by rw [Nat.pow_add]; exact Nat.mul_le_mul k3 h2
    have c : 2 ^ (n + e) ≤ 2 ^ (n + e + (m + d)) := Nat.pow_le_pow_right (by decide) (by omega)
    have c' : 2 ^ (m + d) ≤ 2 ^ (n + e + (m + d)) := Nat.pow_le_pow_right (by decide) (by omega)
    rw [Nat.pow_succ]
    omega
  · rw [cf_padd]
    have z := (k4 i).up (E := D)
    rw [Nat.mul_comm E] at z
    exact (h4 i).up.add z
theorem Lat.mc {D E N M : Nat} {g : List Rat} (k4 : ∀ k, Lat E M (cf g k)) : ∀ (f : List Rat) (_ : ∀ k, Lat D N (cf f k)) (n : Nat), Lat (D * E) (f.length * (N * M)) (mc f g n)
  | [], _, n => by rw [mc_nil_left]; exact Lat.zero
  | a :: f, h, 0 => by
    have := (h 0).mul (k4 0)
    rw [cf_zero] at this
    rw [Mt.mc]
    exact this.mono (Nat.le_mul_of_pos_left _ (by simp))
  | a :: f, h, n + 1 => by
    have z := (h 0).mul (k4 (n + 1))
    rw [cf_zero] at z
    rw [Mt.mc]
    have := z.add (Lat.mc k4 f (fun k => by have := h (k + 1); rw [cf_succ] at this; exact this) n)
    refine this.mono ?_
    rw [List.length_cons, Nat.succ_mul, Nat.add_comm]
    exact Nat.le_refl _
theorem Ln.pmul {d n e m l : Nat} {f g : List Rat} (h : Ln d n f) (k : Ln e m g) (hl : f.length ≤ 2 ^ l) : Ln (d + e) (l + (n + m)) (pmul f g) := by
  obtain ⟨D, N, h1, h2, h3, h4⟩ := h.ex
  obtain ⟨E, M, k1, k2, k3, k4⟩ := k.ex
  refine ⟨D * E, f.length * (N * M), Nat.mul_pos h1 k1, by rw [Nat.pow_add]; exact Nat.mul_le_mul h2 k2, ?_, fun i => by rw [cf_pmul]; exact Lat.mc k4 f h4 i⟩
  rw [Nat.pow_add, Nat.pow_add]
  exact Nat.mul_le_mul hl (Nat.mul_le_mul h3 k3)
theorem Ln.rowIn {d n e m l : Nat} {f g : List Rat} (h : Ln d n f) (k : Ln e m g) (hl : f.length ≤ 2 ^ l) {i j : Nat} (hi : i < f.length) (hj : j ≤ g.length) :
    Ln (d + e) (l + (n + m) + 1) (rowIn (prodIn f g i) i (cf f i) g j) := by
  obtain ⟨D, N, h1, h2, h3, h4⟩ := h.ex
  obtain ⟨E, M, k1, k2, k3, k4⟩ := k.ex
  refine ⟨D * E, f.length * (N * M) + N * M, Nat.mul_pos h1 k1, by rw [Nat.pow_add]; exact Nat.mul_le_mul h2 k2, ?_, fun p => ?_⟩
  · have a : f.length * (N * M) ≤ 2 ^ (l + (n + m)) := by rw [Nat.pow_add, Nat.pow_add]; exact Nat.mul_le_mul hl (Nat.mul_le_mul h3 k3)
    have b : N * M ≤ f.length * (N * M) := Nat.le_mul_of_pos_left _ (by omega)
    rw [Nat.pow_succ]
    omega
  · rw [cf_rowIn _ _ _ _ (by rw [prodIn_len]; omega), cf_prodIn f g p i (by omega)]
    have a : Lat (D * E) ((f.take i).length * (N * M)) (mc (f.take i) g p) := Lat.mc k4 (f.take i) (fun q => by
      rw [cf_take]
      split
      · exact h4 q
      · exact Lat.zero) p
    have a' := a.mono (N := f.length * (N * M)) (Nat.mul_le_mul (by rw [List.length_take]; omega) (Nat.le_refl _))
    refine a'.add ?_
    split
    · exact (h4 i).mul (k4 _)
    · exact Lat.zero
theorem Ln.take {d n : Nat} {f : List Rat} (h : Ln d n f) (k : Nat) : Ln d n (f.take k) := by
  obtain ⟨D, N, h1, h2, h3, h4⟩ := h.ex
  refine ⟨D, N, h1, h2, h3, fun i => ?_⟩
  rw [cf_take]
  split
  · exact h4 i
  · exact Lat.zero
theorem Ln.pmulB {b c : Nat} {f g : List Rat} (h : Ln b b f) (k : Ln c c g) (hl : f.length ≤ 64) : Ln (b + c + 6) (b + c + 6) (Mt.pmul f g) := (h.pmul k (l := 6) hl).mono (by omega) (by omega)
theorem Ln.rowB {b c : Nat} {f g : List Rat} (h : Ln b b f) (k : Ln c c g) (hl : f.length ≤ 64) {i j : Nat} (hi : i < f.length) (hj : j ≤ g.length) : Ln (b + c + 7) (b + c + 7) (Mt.rowIn (prodIn f g i) i (cf f i) g j) := (h.rowIn k (l := 6) hl hi hj).mono (by omega) (by omega)
end Mt
namespace L2
open PySem PySem.Spec PyProof.Rows
section
variable {prog : Program} {w : World} {A : Around} {E : Value → Shared → Prop} {s : Shared}
theorem nx_tup {it l : Addr} {i : Nat} {xs : Array Value} {x : Value} {Q : Value → Shared → Prop} (p : s.heap.IsTupleIter it l i) (q : s.heap.IsTuple l xs) (e : xs[i]? = some x)
    (k : ∀ h', h'.IsTupleIter it l (i + 1) → Heap.SameBut it s.heap h' → Q x { s with heap := h' }) : wpAny (model prog w) A (Builtin.SmallTypes.nextOf (.ref it)) Q E s := by
  obtain ⟨oi, p1, p2, p3⟩ := id p
  obtain ⟨ol, q1, _, n, q2⟩ := q
  unfold Builtin.SmallTypes.nextOf
  refine wpAny_bind (wpAny_callSpecial?_slot (name := Str.ofString "__next__") p.typeIs PySem.F.slot_tuple_iterator_next (wpAny_call_entry PySem.F.slot_tuple_iterator_next p.typeIs PySem.F.entry_tuple_iterator_next ?_ (PySem.F.args_tuple_iterator_next_1 _)))
  refine wpAny_bind (m := field (.ref it) 0) (wpAny_field p1 p3 (x := .ref l) rfl ?_)
  show wpAny _ _ (if (Value.ref l == Value.none) = true then _ else _) _ _ s
  rw [if_neg (show ¬((Value.ref l == Value.none) = true) from Bool.false_ne_true)]
  refine wpAny_bind (m := field (.ref it) 1) (wpAny_field p1 p3 (x := .int i 0) rfl ?_)
  refine wpAny_bind (m := seqItems? (.ref l)) (wpAny_seqItems q1 q2 ?_)
  simp only [Int.toNat_natCast, e]
  refine wpAny_bind (wpAny_setField p1 p3 (by simp) (wpAny_pure ⟨x, rfl, wpAny_pure (k _ ⟨_, Heap.get?_update_self _ p1 (Obj.isFreed_of_fields (Obj.data_mapFields p3 _)), (Obj.cls_mapFields ..).trans p2, ?_⟩ (Heap.SameBut.update ..))⟩))
  rw [Obj.data_mapFields p3]; simp [rawInt]
theorem nx_tup_end {it l : Addr} {i : Nat} {xs : Array Value} {Q : Value → Shared → Prop} (hh : A.handled = none) (p : s.heap.IsTupleIter it l i) (q : s.heap.IsTuple l xs) (e : xs[i]? = none)
    (k : ∀ h' x, Heap.ExtBut it s.heap h' → (∃ o, h'.get? x = some o ∧ o.cls = .type "StopIteration") → E (.ref x) { s with heap := h' }) : wpAny (model prog w) A (Builtin.SmallTypes.nextOf (.ref it)) Q E s := by
  obtain ⟨oi, p1, p2, p3⟩ := id p
  obtain ⟨ol, q1, _, n, q2⟩ := q
  unfold Builtin.SmallTypes.nextOf
  refine wpAny_bind (wpAny_callSpecial?_slot (name := Str.ofString "__next__") p.typeIs PySem.F.slot_tuple_iterator_next (wpAny_call_entry PySem.F.slot_tuple_iterator_next p.typeIs PySem.F.entry_tuple_iterator_next ?_ (PySem.F.args_tuple_iterator_next_1 _)))
  refine wpAny_bind (m := field (.ref it) 0) (wpAny_field p1 p3 (x := .ref l) rfl ?_)
  show wpAny _ _ (if (Value.ref l == Value.none) = true then _ else _) _ _ s
  rw [if_neg (show ¬((Value.ref l == Value.none) = true) from Bool.false_ne_true)]
  refine wpAny_bind (m := field (.ref it) 1) (wpAny_field p1 p3 (x := .int i 0) rfl ?_)
  refine wpAny_bind (m := seqItems? (.ref l)) (wpAny_seqItems q1 q2 ?_)
  simp only [Int.toNat_natCast, e]
  refine wpAny_bind (wpAny_rule (wpAny_bind (wpAny_setField p1 p3 (by simp) ?_)))
  refine wpAny_bind (m := newExc (.type "StopIteration") []) ?_
  simp only [newExc, newTuple]
  refine wpAny_bind (wpAny_newObj_type ?_ (by size_fits))
  refine wpAny_bind (m := firstArgMember _ _) (wpAny_of_eq (a := Value.none) (by first | rfl | (simp only [firstArgMember]; rfl)) ?_)
  refine wpAny_newObj_type ?_ (by size_fits)
  simp only [raiseNew]
  refine wpAny_bind (wpAny_handled ?_)
  first | rw [show A.in1.handled = none from hh] | rw [hh]
  exact wpAny_bind (wpAny_pure (wpAny_throw (k _ _ (((Heap.SameBut.update ..).extBut.push _).push _) ⟨_, Heap.get?_push_size _ rfl, rfl⟩)))
theorem en_item {e it l : Addr} {i : Nat} {xs : Array Value} {x old : Value} {Q : Option Value → Shared → Prop} (ye : IsEnum s.heap e it i old) (yi : s.heap.IsTupleIter it l i) (yl : s.heap.IsTuple l xs) (yx : xs[i]? = some x) (ne : e ≠ it)
    (k : ∀ h', IsEnumOut h' e it ((i : Int) + 1) x s.heap.objs.size → h'.IsTupleIter it l (i + 1) → h'.get? s.heap.objs.size = some { cls := .type "tuple", data := .seq #[.int i s.toks, x] } →
      (∀ b o, b ≠ e → b ≠ it → s.heap.get? b = some o → h'.get? b = some o) → Q (some (.ref s.heap.objs.size)) { s with heap := h', toks := s.toks + 1 }) : wpAny (model prog w) A (pyNext (.ref e)) Q E s := by
  have ty : s.TypeIs (.ref e) "enumerate" := ⟨_, ye, rfl⟩
  obtain ⟨g0, gs, dr, tk, os⟩ := s
  unfold pyNext
  refine wpAny_bind (wpAny_attempt (wpAny_callSpecial?_slot (name := Str.ofString "__next__") ty PySem.F.slot_enumerate_next (wpAny_call_entry PySem.F.slot_enumerate_next ty PySem.F.entry_enumerate_next ?_ (PySem.F.args_enumerate_next_1 _))))
  refine wpAny_bind (m := field (.ref e) 2) (wpAny_field ye rfl (x := .ref it) rfl (wpAny_bind (nx_tup yi yl yx fun g1 yi1 b1 => ?_)))
  have b1 : Heap.SameBut it g0 g1 := b1
  have ye1 : IsEnum g1 e it i old := (b1.2 e ne).trans ye
  refine wpAny_bind (m := field (.ref e) 3) (wpAny_field ye1 rfl (x := rawInt i) rfl ?_)
  refine wpAny_bind (m := field (.ref e) 4) (wpAny_field ye1 rfl (x := .none) rfl ?_)
  refine wpAny_bind (m := mkInt (i : Int)) (wpAny_mkInt ?_)
  refine wpAny_bind (m := setField (.ref e) 3 (rawInt ((i : Int) + 1))) (wpAny_setField_rec ye1 (by simp) fun g2 ye2 b2 => ?_)
  have b2 : Heap.SameBut e g1 g2 := b2
  have ye2 : IsEnum g2 e it ((i : Int) + 1) old := ye2
  refine wpAny_bind (m := setField (.ref e) 4 .none) (wpAny_setField_rec ye2 (by simp) fun g3 ye3 b3 => ?_)
  have b3 : Heap.SameBut e g2 g3 := b3
  have ye3 : IsEnum g3 e it ((i : Int) + 1) old := ye3
  refine wpAny_bind (m := newTuple [.int i tk, x]) (wpAny_newTuple ?_)
  have sz : g3.objs.size = g0.objs.size := by rw [b3.1, b2.1, b1.1]
  have el : e < g0.objs.size := Heap.lt_size ye
  have yi3 : g3.IsTupleIter it l (i + 1) := (yi1.extBut b2.extBut (Ne.symm ne)).extBut b3.extBut (Ne.symm ne)
  have k3 : ∀ b o, b ≠ e → b ≠ it → g0.get? b = some o → g3.get? b = some o := fun b o z1 z2 z => b3.extBut b o z1 (b2.extBut b o z1 (b1.extBut b o z2 z))
  have ye4 : IsEnum (g3.push { cls := .type "tuple", data := .seq #[.int i tk, x] }) e it ((i : Int) + 1) old := Heap.get?_push_of_some _ ye3
  have t4 : (g3.push { cls := .type "tuple", data := .seq #[.int i tk, x] }).get? g0.objs.size = some { cls := .type "tuple", data := .seq #[.int i tk, x] } := by rw [← sz]; exact Heap.get?_push_size _ rfl
  have yi4 : (g3.push { cls := .type "tuple", data := .seq #[.int i tk, x] }).IsTupleIter it l (i + 1) := let ⟨o, z, r⟩ := yi3; ⟨o, Heap.get?_push_of_some _ z, r⟩
  have k4 : ∀ b o, b ≠ e → b ≠ it → g0.get? b = some o → (g3.push { cls := .type "tuple", data := .seq #[.int i tk, x] }).get? b = some o := fun b o z1 z2 z => Heap.get?_push_of_some _ (k3 b o z1 z2 z)
  rw [sz]
  generalize g3.push { cls := .type "tuple", data := .seq #[.int i tk, x] } = g4 at ye4 t4 yi4 k4 ⊢
  refine wpAny_bind (m := Builtin.SmallTypes.ownedTupleIsFree (.ref e)) ?_
  unfold Builtin.SmallTypes.ownedTupleIsFree
  refine wpAny_bind (wpAny_field ye4 rfl (x := .none) rfl (wpAny_pure ?_))
  simp only [if_true]
  refine wpAny_bind (wpAny_rule (wpAny_bind (wpAny_field ye4 rfl (x := old) rfl (wpAny_bind (wpAny_setField_rec ye4 (by simp) fun g5 ye5 b5 => ?_)))))
  have b5 : Heap.SameBut e g4 g5 := b5
  have ye5 : IsEnum g5 e it ((i : Int) + 1) x := ye5
  refine wpAny_bind (m := Builtin.SmallTypes.ownedTupleHandOut (.ref e) (.ref g0.objs.size)) ?_
  unfold Builtin.SmallTypes.ownedTupleHandOut
  refine wpAny_bind (wpAny_setField_rec ye5 (by simp) fun g6 ye6 b6 => ?_)
  have b6 : Heap.SameBut e g5 g6 := b6
  have ye6 : IsEnumOut g6 e it ((i : Int) + 1) x g0.objs.size := ye6
  refine wpAny_setField_rec ye6 (by simp) fun g7 ye7 b7 => ?_
  have b7 : Heap.SameBut e g6 g7 := b7
  have b57 : ∀ b o, b ≠ e → g4.get? b = some o → g7.get? b = some o := fun b o z1 z => b7.extBut b o z1 (b6.extBut b o z1 (b5.extBut b o z1 z))
  refine wpAny_bind (wpAny_letGo (wpAny_pure ⟨_, rfl, wpAny_pure (k g7 ye7 ?_ (b57 _ _ (Nat.ne_of_gt el) t4) fun b o z1 z2 z => b57 b o z1 (k4 b o z1 z2 z))⟩))
  obtain ⟨o, z, r⟩ := yi4
  exact ⟨o, b57 it o (Ne.symm ne) z, r⟩
theorem en_end {e it l : Addr} {i : Nat} {xs : Array Value} {old : Value} {Q : Option Value → Shared → Prop} (hh : A.handled = none) (ye : IsEnum s.heap e it i old) (yi : s.heap.IsTupleIter it l i) (yl : s.heap.IsTuple l xs) (yx : xs[i]? = none)
    (k : ∀ h', Heap.ExtBut it s.heap h' → Q none { s with heap := h' }) : wpAny (model prog w) A (pyNext (.ref e)) Q E s := by
  have ty : s.TypeIs (.ref e) "enumerate" := ⟨_, ye, rfl⟩
  unfold pyNext
  refine wpAny_bind (wpAny_attempt (wpAny_callSpecial?_slot (name := Str.ofString "__next__") ty PySem.F.slot_enumerate_next (wpAny_call_entry PySem.F.slot_enumerate_next ty PySem.F.entry_enumerate_next ?_ (PySem.F.args_enumerate_next_1 _))))
  refine wpAny_bind (m := field (.ref e) 2) (wpAny_field ye rfl (x := .ref it) rfl (wpAny_bind (nx_tup_end hh yi yl yx fun h' x z ⟨o, ho, hc⟩ => ?_)))
  exact wpAny_bind (wpAny_isInstance (T := "StopIteration") (b := true) ⟨o, ho, hc⟩ isSubtype_stop (wpAny_pure (k _ z)))
end
def itO (l : Addr) : Obj := { cls := .type "tuple_iterator", data := .fields #[.ref l, .int 0 0] }
def enO (it : Addr) : Obj := { cls := .type "enumerate", data := .fields #[.none, .bool false, .ref it, rawInt 0, .none, .none] }
theorem meets_enT (l : Addr) (its : Array Value) (n : Nat) (dd : Option Addr) (sl : Array (Option Value)) :
    Meets (Builtin.«enumerate.__new__» ⟨[.type "enumerate", .ref l], []⟩) (fun _ R s => s.heap.get? l = some { cls := .type "tuple", dict := dd, data := .seq its n, slots := sl } ∧
      R (.ok (.ret (.ref (s.heap.push (itO l)).objs.size))) { s with heap := (s.heap.push (itO l)).push (enO s.heap.objs.size) }) :=
  .of_wp fun prog w A R s h => by
    obtain ⟨g0, gs, dr, tk, os⟩ := s
    obtain ⟨yl, h⟩ := h
    have sub := sub_enumerate
    have yt : Heap.IsTuple (Shared.heap ⟨g0, gs, dr, tk, os⟩) l its := ⟨_, yl, rfl, n, rfl⟩
    wp_walk using AutoSeq1.wpAny_loadPart' yl
    refine wpAny_stack_any fun st => wpAny_pure ?_
    split
    · rename_i c _ _ _ _ _
      cases (c == Value.type "enumerate") <;> (wp_walk using AutoSeq1.wpAny_loadPart' yl, wpAny_pyIter_tuple yt; exact ⟨_, rfl, h⟩)
    · wp_walk using AutoSeq1.wpAny_loadPart' yl, wpAny_pyIter_tuple yt
      exact ⟨_, rfl, h⟩
section
variable {prog : Program} {w : World} {A : Around} {E : Value → Shared → Prop} {s : Shared}
theorem call_enT {l : Addr} {its : Array Value} {Q : Value → Shared → Prop} (yt : s.heap.IsTuple l its)
    (k : ∀ h', IsEnum h' (s.heap.objs.size + 1) s.heap.objs.size 0 .none → h'.IsTupleIter s.heap.objs.size l 0 → (∀ b o, s.heap.get? b = some o → h'.get? b = some o) → Q (.ref (s.heap.objs.size + 1)) { s with heap := h' }) :
    wpAny (model prog w) A (call (.type "enumerate") [.ref l]) Q E s := by
  obtain ⟨⟨c, dd, dt, sl⟩, yl, hc, n, hd⟩ := yt
  have hc : c = .type "tuple" := hc
  have hd : dt = .seq its n := hd
  subst hc hd
  refine callType_new PySem.F.called_enumerate (by decide) (PySem.F.typeCall_enumerate_1 _) (PySem.F.newCall_enumerate_1 _) (fun obj => PySem.F.args_object_init_2 obj _) PySem.F.entry_enumerate_new (meets_enT l its n dd sl) ⟨yl, ?_⟩
  have hz : (s.heap.push (itO l)).objs.size = s.heap.objs.size + 1 := Heap.size_push ..
  have ye : IsEnum ((s.heap.push (itO l)).push (enO s.heap.objs.size)) (s.heap.objs.size + 1) s.heap.objs.size 0 .none := by
    rw [← hz]
    exact Heap.get?_push_size _ rfl
  show _ ∧ _
  rw [hz]
  exact ⟨⟨_, ye, rfl⟩, k _ ye ⟨_, Heap.get?_push_of_some _ (Heap.get?_push_size _ rfl), rfl, rfl⟩ fun b o z => Heap.get?_push_of_some _ (Heap.get?_push_of_some _ z)⟩
end
theorem Inv.turnLaid {X : Cx} {pins : List (Addr × Obj)} {σ : St} {H : Hp} {s : Shared} {h' : Heap} {t' : Nat} {e it t : Addr} {o : HO} (I : Inv X pins σ H s) (k : ∀ b u, b ≠ e → b ≠ it → s.heap.get? b = some u → h'.get? b = some u) (fe : FpOk X pins H e) (fi : FpOk X pins H it)
    (hn : H t = none) (ht : s.heap.get? t = none) (new : ObjOk X.prog X.w (upd H t o) h' t o) : Inv X pins σ (upd H t o) { s with heap := h', toks := t' } := by
  have nt : ∀ b u, H b = some u → b ≠ t := fun b u z y => by rw [y, hn] at z; cases z
  have ne : ∀ b u, H b = some u → b ≠ e := fun b u z y => by rw [y, fe.1] at z; cases z
  have ni : ∀ b u, H b = some u → b ≠ it := fun b u z y => by rw [y, fi.1] at z; cases z
  have out : ∀ b, b ∉ [e, it] → b ≠ e ∧ b ≠ it := fun b z => ⟨fun y => z (by simp [y]), fun y => z (by simp [y])⟩
  refine I.step (g' := s.gens) (d' := s.drawn) (ch := [e, it]) (fun b hb => ?_) (fun b u _ _ hc z _ => k b u (out b hc).1 (out b hc).2 z) (fun b u _ _ hc z _ => ⟨u.slots, k b u (out b hc).1 (out b hc).2 z⟩) (fun b u hc z y => ?_)
    (fun b u hc z => ⟨u, k b u (out b hc).1 (out b hc).2 z⟩) (fun b xs z => ?_) (fun b u v z => ?_) (fun b ps z => ⟨#[], ?_⟩) (fun m hm => ?_) (fun b u z => ?_) I.bare
  · simp only [List.mem_cons, List.not_mem_nil, or_false] at hb
    rcases hb with rfl | rfl
    · exact ⟨fe.2.2.2.1, fe.2.1, fe.2.2.2.2.1, fe.2.2.2.2.2⟩
    · exact ⟨fi.2.2.2.1, fi.2.1, fi.2.2.2.2.1, fi.2.2.2.2.2⟩
  · rw [upd_ne (by rintro rfl; rw [ht] at z; cases z)]; exact y
  · rw [upd_ne (nt _ _ z)]; exact z
  · rw [upd_ne (nt _ _ z)]; exact z
  · rw [upd_ne (nt _ _ z), z]; simp
  · obtain ⟨u, es, ep, hu, r⟩ := hm
    exact ⟨u, es, ep, k _ u (Ne.symm fe.2.1) (Ne.symm fi.2.1) hu, r⟩
  · by_cases hb : b = t
    · subst hb
      rw [upd_same] at z
      cases z
      exact new
    · rw [upd_ne hb] at z
      refine (I.hok b u z).stay (fun c v hc q => ?_) (fun c q => by rw [upd_ne (nt _ _ q)]; exact q) fun c xs q => by rw [upd_ne (nt _ _ q)]; exact q
      rcases hc with y | y
      · subst y; exact k c v (ne _ _ z) (ni _ _ z) q
      · exact k c v (ne _ _ y) (ni _ _ y) q
def Ite (K : PySem.W.Frag) (a : Addr) : It :=
  ⟨fun i H => ∃ xs x, SqT K H a xs ∧ xs[i]? = some x, fun i H v H' => ∃ p, v = .ref p ∧ H p = none ∧ ∀ xs x, SqT K H a xs → xs[i]? = some x → H' = upd H p (.tup [.int i, x]), fun i H => ∃ xs, SqT K H a xs ∧ xs.length ≤ i⟩
theorem turn_enT {P : Program} {w : World} {K : PySem.W.Frag} {es : List Expr} {y1 : Nat} {tp : Pos} (a e it : Addr) (ne : e ≠ it) : Turn P w K (.Tuple es y1 tp) (Ite K a) [e, it] e (fun i h => (∃ old, IsEnum h e it i old) ∧ h.IsTupleIter it a i) where
  mem := by simp
  obj := fun i h st b hb => by
    simp only [List.mem_cons, List.not_mem_nil, or_false] at hb
    rcases hb with rfl | rfl
    · obtain ⟨⟨old, z⟩, _⟩ := st
      exact ⟨_, z, fun v q => by cases (show Data.fields _ = Data.cell v from q)⟩
    · obtain ⟨_, o, z, c, d⟩ := st
      exact ⟨o, z, fun v q => by rw [d] at q; cases q⟩
  keep := fun i h h' st k => by
    obtain ⟨⟨old, z⟩, o, y, r⟩ := st
    exact ⟨⟨old, k e (by simp) _ z⟩, o, k it (by simp) _ y, r⟩
  item := by
    intro X hP hw hK hc i pins s σ H E I hf st hg
    subst hP hw hK
    obtain ⟨xs, x, hq, hx⟩ := hg
    obtain ⟨its, rv, p, hz⟩ := I.tuple hq
    obtain ⟨u, hu, ru⟩ := rv.get hx
    obtain ⟨⟨old, ye⟩, yi⟩ := st
    refine en_item ye yi (show s.heap.IsTuple a its.toArray from p) (x := u) (by simpa using hu) ne fun h1 yo yi1 yt k1 => ⟨_, rfl, ?_⟩
    refine wpAny_letOwnedTupleGo_enum yo fun h2 ye2 b2 => ?_
    have b2 : Heap.SameBut e h1 h2 := b2
    have el : e < s.heap.objs.size := Heap.lt_size ye
    have tn : e ≠ s.heap.objs.size := Nat.ne_of_lt el
    have fr : H s.heap.objs.size = none := I.hok.fresh (Nat.le_refl _)
    have yt2 : h2.get? s.heap.objs.size = some { cls := .type "tuple", data := .seq #[.int i s.toks, u] } := b2.extBut _ _ (Ne.symm tn) yt
    have I2 : Inv X pins σ (upd H s.heap.objs.size (.tup [.int i, x])) { s with heap := h2, toks := s.toks + 1 } :=
      I.turnLaid (fun b o z1 z2 z => b2.extBut b o z1 (k1 b o z1 z2 z)) (hf e (by simp)) (hf it (by simp)) fr (Heap.get?_none_of_le (Nat.le_refl _))
        ⟨sz_le 2 (by decide), [.int i s.toks, u], .cons ⟨_, rfl⟩ (.cons ru .nil), ⟨_, yt2, rfl, _, rfl⟩⟩
    have hit : it ≠ s.heap.objs.size := by
      obtain ⟨o, z, _⟩ := yi
      exact Nat.ne_of_lt (Heap.lt_size z)
    refine ⟨.ref s.heap.objs.size, _, I2, rfl, ⟨_, rfl, fr, fun ys y hy hyi => ?_⟩, ⟨⟨_, ye2⟩, yi1.extBut b2.extBut (Ne.symm ne)⟩, fun b hb => ?_⟩
    · have exy := I.tuple_inj hy hq
      subst exy
      rw [hx] at hyi
      cases hyi
      rfl
    · have h0 := (hf b hb).1
      simp only [List.mem_cons, List.not_mem_nil, or_false] at hb
      rcases hb with rfl | rfl
      · rw [upd_ne tn]; exact h0
      · rw [upd_ne hit]; exact h0
  done := by
    intro X hP hw hK hc i pins s σ H E I hf st hg
    subst hP hw hK
    obtain ⟨xs, hq, hx⟩ := hg
    obtain ⟨its, rv, p, hz⟩ := I.tuple hq
    obtain ⟨⟨old, ye⟩, yi⟩ := st
    obtain ⟨f0, f1, f2, f3, f4, f5⟩ := hf it (by simp)
    have hl := rv.length
    exact en_end (I.ok.hd hc) ye yi (show s.heap.IsTuple a its.toArray from p) (by simp; omega) fun h' eb => ⟨rfl, I.turned (t' := s.toks) (fun b o hb z => eb b o hb z) f0 f1 f3 f4 f5⟩
  self := fun _ _ _ _ _ st h => by
    obtain ⟨⟨old, z⟩, _⟩ := st
    exact wpAny_pyIter_enum z h
section
variable {X : Cx} {es : List Expr} {y1 : Nat} {tp : Pos}
def iEn (K : PySem.W.Frag) (ta : TA) : TI := fun σ H R => ta σ H fun vs H1 => ∃ a, vs = [.ref a] ∧ (∃ xs, SqT K H1 a xs) ∧ R (Ite K a) H1
theorem pi_enT {a : Expr} {ta : TA} {p pos : Pos} (hg : Gl X "enumerate") (hm : X.mg "enumerate" = none) (ha : PA X [a] ta) (hs : starEach [a] X.env = [(false, eval a X.env)] := by rfl) : PI X (.Tuple es y1 tp) (.Call (.Name "enumerate" p) [a] [] pos) (iEn X.K ta) := by
  intro pins s σ H R I h
  refine Call_ (ld_blt I hg hm PyProof.Rows.boot_enumerate (PyProof.Rows.callWith_type1 (thn (ha pos pins s σ H _ I h) fun us s1 ⟨vs, H1, I1, r1, q1⟩ => ?_) hs rfl))
  obtain ⟨b, e, ⟨xs, hq⟩, q⟩ := q1
  subst e
  obtain ⟨u, rfl, rx⟩ := vals1 r1
  cases rx
  obtain ⟨its, rv, yt, hz⟩ := I1.tuple hq
  refine call_enT (show s1.heap.IsTuple b its.toArray from yt) fun h' ye yi kp => wpAny_pyIter_enum ye ?_
  refine ⟨s1.heap.objs.size + 1, [s1.heap.objs.size + 1, s1.heap.objs.size], _, _, H1, rfl, I1.kept (t' := s1.toks) kp, turn_enT b _ _ (Nat.succ_ne_self _), ⟨⟨_, ye⟩, yi⟩, fun c hc => ?_, q⟩
  simp only [List.mem_cons, List.not_mem_nil, or_false] at hc
  rcases hc with rfl | rfl
  · exact I1.fpOk (Nat.le_succ _) (I1.hok.fresh (Nat.le_succ _))
  · exact I1.fpOk (Nat.le_refl _) (I1.hok.fresh (Nat.le_refl _))
def FE (xs : List V) (at_ : Hp → Prop) (g : TG) (tb : TS) (D : Ends) (σ : St) (H : Hp) : Prop := ∃ Pv : Nat → St → Hp → Prop, Pv 0 σ H ∧ (∀ i σ H, i ≤ xs.length → Pv i σ H → at_ H) ∧
  (∀ i x σ H p, xs[i]? = some x → Pv i σ H → H p = none → g (.ref p) σ (upd H p (.tup [.int i, x])) fun σ2 H2 => tb { D with nx := Pv (i + 1), ct := Pv (i + 1), bk := D.nx } σ2 H2) ∧ ∀ σ H, Pv xs.length σ H → D.nx σ H
def tForE (K : PySem.W.Frag) (te : TE) (g : TG) (tb : TS) : TS := fun D σ H => te σ H fun v H1 => ∃ a xs, v = .ref a ∧ SqT K H1 a xs ∧ FE xs (fun H => SqT K H a xs) g tb D σ H1
theorem ps_forE {l : Expr} {body : List Stmt} {te : TE} {g : TG} {tb : TS} {p pos pos' : Pos} (hc : X.calm = true) (hp : PassesOwn (model X.prog X.w) X.A X.env X.xe) (hm : X.mg "enumerate" = none) (hl : PE X l te) (hgt : PG X (.Tuple es y1 tp) g) (hb : PSs X body tb)
    (hg : Gl X "enumerate" := by rfl) (hs : starEach [l] X.env = [(false, eval l X.env)] := by rfl) : PS X (.For (.Tuple es y1 tp) (.Call (.Name "enumerate" p) [l] [] pos') body [] pos) (tForE X.K te g tb) := by
  intro pins s σ H D I h
  refine ps_for hp hc (pi_enT hg hm (pa_cons hl.mo pa_nil (by rw [hs]; rfl)) hs) hgt hb (by intro _; rfl) pins s σ H D I ?_
  refine ⟨_, h, fun v H1 ⟨a, xs, e, q, Pv, p0, pl, pt, pd⟩ => ⟨a, by rw [e], ⟨xs, q⟩, ?_⟩⟩
  refine ⟨fun i m σ H => m = xs.length - i ∧ i ≤ xs.length ∧ Pv i σ H, ⟨xs.length, by simp, Nat.zero_le _, p0⟩, ?_⟩
  rintro i m σ H ⟨rfl, hi, z⟩
  have y := pl i σ H hi z
  by_cases hlt : i < xs.length
  · refine .inr ⟨⟨xs, xs[i], y, by simp [hlt]⟩, Pv (i + 1), fun σ' H' z' => ⟨xs.length - (i + 1), by omega, rfl, hlt, z'⟩, fun x H' yl => ?_⟩
    obtain ⟨t, rfl, ht, hu⟩ := yl
    have hx : xs[i]? = some xs[i] := by simp [hlt]
    rw [hu xs _ y hx]
    exact pt i _ σ H t hx z ht
  · have e : i = xs.length := by omega
    subst e
    exact .inl ⟨⟨xs, y, Nat.le_refl _⟩, pd σ H z⟩
end
def IsRevT (h : Heap) (r l : Addr) (i : Int) : Prop := ∃ o, h.get? r = some o ∧ o.cls = .type "reversed" ∧ o.data = .fields #[.ref l, rawInt i]
section
variable {prog : Program} {w : World} {A : Around} {E : Value → Shared → Prop} {s : Shared}
theorem IsRevT.ty {r l : Addr} {i : Int} (y : IsRevT s.heap r l i) : s.TypeIs (.ref r) "reversed" := let ⟨o, z, c, _⟩ := y; ⟨o, z, c⟩
end
section
variable {X : Cx} {tg : Expr}
def tForV (K : PySem.W.Frag) (te : TE) (g : TG) (tb : TS) : TS := fun D σ H => te σ H fun v H1 => ∃ a xs, v = .ref a ∧ SqT K H1 a xs ∧ FL xs.reverse (fun H => SqT K H a xs) g tb D σ H1
end
theorem Ln.sz {b : Nat} {f : List Rat} (h : Mt.Ln b b f) (k : Nat) : Sz (b + 1) (Mt.cf f k) := ⟨(h.bits k).1, (h.bits k).2⟩
theorem Sz.ln {m : Nat} {f : List Rat} (h : ∀ q ∈ f, Sz m q) : Mt.Ln (m * f.length) (m * f.length) f := Mt.Ln.of f fun q hq => ⟨(h q hq).t, (h q hq).b⟩
theorem ixN_nat {n k : Nat} (h : k < n) : ixN n (k : Int) = some k := by
  simp [ixN]
  omega
end L2
namespace L2
open PySem PySem.Spec PyProof.Rows PySem.W
def excInit (K : Frag) (C fI : Addr) : Bool :=
  match K.lookup C with
  | some ⟨.type "type", _, .cls cd, sl⟩ =>
    (match cd.mro, sl.toList with
      | .ref D :: up, [_, _, _, _, some (.builtin n), _] => D == C && (n == "ValueError.__new__" && (!cd.hasDel && (tailIn K vmro up && (isFn K (.ref fI) && findIn K (.ref C) "__init__" == some (some (.ref fI))))))
      | _, _ => false)
  | _ => false
section
variable {prog : Program} {w : World} {A : Around} {E : Value → Shared → Prop} {h : Heap} {g : Array GenState} {d : Drawn} {t : Nat} {os : OsState}
variable {nm q : Str} {C N fI : Addr} {bs bm : List Value} {hdct : Bool} {sn : List Str} {sub : List Value} {ab : Bool} {col : Option Bool} {dd : Option Addr} {k0 k1 k2 k3 k5 : Option Value} {K : Frag} {us : List Value}
end
end L2
namespace L2
open PySem PySem.Spec PyProof.Rows PySem.W
def rawX (e : Addr) (cls : Value) (dv : Option Addr) : HO := .ext fun h => ∃ t : Addr, h.get? e = some { cls := cls, dict := dv, data := .fields #[.ref t, .none, .none, .none, .bool false, .none] }
theorem rawX_ok {P : Program} {w : World} {H : Hp} {h : Heap} {e t : Addr} {cls : Value} {dv : Option Addr} (q : h.get? e = some { cls := cls, dict := dv, data := .fields #[.ref t, .none, .none, .none, .bool false, .none] }) : ObjOk P w H h e (rawX e cls dv) :=
  ⟨⟨t, q⟩, ⟨_, q⟩, fun _ _ ⟨t, q⟩ k => ⟨t, k _ q⟩⟩
def era (H : Hp) (e : Addr) : Hp := fun b => if b = e then none else H b
@[simp] theorem era_same (H : Hp) (e : Addr) : era H e e = none := if_pos rfl
section
variable {M : Model} {A : Around} {E : Value → Shared → Prop} {env : Env}
variable {nm q : Str} {C N : Addr} {bs bm : List Value} {hdct : Bool} {sn : List Str} {sub : List Value} {ab : Bool} {col : Option Bool} {dd : Option Addr} {k0 k1 k2 k3 k5 : Option Value} {nid : String}
end
def tRaiseI (C : Addr) (sp : Sp) (E : XK) (t : TA) : TS := fun _ σ H => t σ H fun vs H1 => vs.length ≤ sizeLine ∧ ∀ e, H1 e = none →
  sp (.ref e :: vs) (upd H1 e (rawX e (.ref C) none)) (fun r H2 => r = .non ∧ ∃ dv, H2 e = some (rawX e (.ref C) dv) ∧ E (.ref C) dv (era H2 e)) E0
end L2
namespace L2
open PySem PySem.Spec PyProof.Rows PySem.W
section
variable {X : Cx} {pins : List (Addr × Obj)} {σ : St} {H : Hp} {s : Shared}
theorem upd_id {H : Hp} {a : Addr} {o : HO} (q : H a = some o) : upd H a o = H := by
  funext b
  by_cases z : b = a
  · subst z; rw [upd_same, q]
  · rw [upd_ne z]
theorem Inv.args {e t : Addr} {cls : Value} {dv : Option Addr} {us : List Value} (I : Inv X pins σ H s) (q : H e = some (rawX e cls dv)) (g : s.heap.get? e = some { cls := cls, dict := dv, data := .fields #[.ref t, .none, .none, .none, .bool false, .none] }) :
    Inv X pins σ H { s with heap := (s.heap.push { cls := .type "tuple", data := .seq us.toArray }).update e (Obj.mapFields (·.setIfInBounds 0 (.ref s.heap.objs.size))) } := by
  have g1 := Heap.get?_push_of_some (h := s.heap) { cls := .type "tuple", data := .seq us.toArray } g
  have g2 := Heap.get?_update_self (Obj.mapFields (·.setIfInBounds 0 (.ref s.heap.objs.size))) g1 rfl
  have I2 := I.write (x := e) (e := e) (o := rawX e cls dv) (t' := s.toks) (h' := (s.heap.push { cls := .type "tuple", data := .seq us.toArray }).update e (Obj.mapFields (·.setIfInBounds 0 (.ref s.heap.objs.size)))) (by rw [q]; exact trivial) (.inl rfl)
    (fun b u n z => (Heap.get?_update_other _ _ (Ne.symm n)).trans (Heap.get?_push_of_some _ z)) ⟨_, g2⟩ (rawX_ok (t := s.heap.objs.size) (by rw [g2]; rfl))
  rw [upd_id q] at I2
  exact I2
def tExcInit (K : Frag) (t : TA) : TE := fun σ H Q => t σ H fun vs H1 => ∃ a C fI dv x, vs = [.ref a, x] ∧ H1 a = some (rawX a (.ref C) dv) ∧ excInit K C fI = true ∧ Q .non H1
end
end L2
namespace L2
open PySem PySem.Spec PyProof.Rows PySem.W Builtin Builtin.ObjectAttr
def tFs (x : Str) (t : TE) : TE := fun σ H Q => t σ H fun v H1 => ∃ n : Int, v = .int n ∧ n.natAbs.log2 < 1920 ∧ (x ++ (toString n : Str)).length ≤ sizeLine ∧ Q (.str (x ++ (toString n : Str))) H1
def refsV : List Value → Bool
  | .ref _ :: r => refsV r
  | l => l == vmro
structure XAtt (K : Frag) (C : Addr) (f : Str) : Prop where
  sa : findIn K (.ref C) "__setattr__" = some (some (.builtin "object.__setattr__"))
  no : findIn K (.ref C) f = some none
  ob : mroIn K C (.type "object") = some true
  cl : (clsIn K C).any (fun cd => cd.hasDict && refsV cd.mro) = true
section
variable {prog : Program} {w : World} {A : Around} {E : Value → Shared → Prop} {s : Shared} {K : Frag} {x C t : Addr} {f : Str} {v : Value}
end
section
variable {X : Cx} {pins : List (Addr × Obj)} {σ : St} {H : Hp} {s : Shared}
end
def sXset (K : Frag) (ta tv : TE) (f : Str) : TS := fun D σ H => tv σ H fun y H1 => ta σ H1 fun x H2 => ∃ a C, x = .ref a ∧ H2 a = some (rawX a (.ref C) none) ∧ XAtt K C f ∧
  ∀ d, H2 d = none → d ≠ a → D.nx σ (upd (upd H2 a (rawX a (.ref C) (some d))) d (.xd [(f, y)]))
end L2
namespace L2
open PySem PySem.Spec PyProof.Rows PySem.W Builtin Builtin.ObjectAttr
structure XGet (K : Frag) (C : Addr) (f : Str) : Prop where
  x : XCls K C
  hd : hasDictIn K C = true
  no : findIn K (.ref C) f = some none
def tXget (K : Frag) (ta : TE) (f : Str) : TE := fun σ H Q => ta σ H fun x H1 => ∃ a C d fs v, x = .ref a ∧ H1 a = some (excD a (.ref C) (some d)) ∧ H1 d = some (.xd fs) ∧ XGet K C f ∧ fs.lookup f = some v ∧ Q v H1
end L2
namespace L2
open PySem PySem.Spec PyProof.Rows Builtin Builtin.Str
section
variable {X : Cx}
end
end L2
namespace L2
open PySem PySem.Spec PyProof.Rows
end L2
namespace L2
open PySem PySem.Spec PyProof.Rows
end L2
namespace L2
open PySem PySem.Spec PyProof.Rows
section
variable {X : Cx}
theorem bools_of : ∀ {bs : List Bool} {us : List Value}, Vals (bs.map V.bl) us → us = bs.map Value.bool
  | [], _, .nil => rfl
  | b :: bs, _, .cons e r => by rw [bools_of r, List.map_cons, show _ = Value.bool b from e]
def rAll : List V → Hp → VK → Prop := fun xs H Q => ∃ (l : Addr) (bs : List Bool), xs = [.ref l] ∧ H l = some (.lst (bs.map V.bl)) ∧ Q (.bl (bs.all id)) H
theorem call_all (hc : X.calm = true) : CallR X (.builtin "all") rAll := by
  rintro pins s σ H xs us Q I r ⟨l, bs, rfl, hl, q⟩
  obtain ⟨u, rfl, ru⟩ := vals1 r
  obtain rfl : u = Value.ref l := ru
  obtain ⟨_, its, n, hv, _, g⟩ := I.lstM hl
  obtain rfl := bools_of hv
  have il : s.heap.IsList l (bs.map Value.bool).toArray := ⟨_, g, rfl, _, rfl⟩
  refine call_all_walk (wpAny_pyIter_list il ?_)
  have ne : l ≠ s.heap.objs.size := Nat.ne_of_lt (Heap.lt_size g)
  refine ⟨s.heap.objs.size, _, _, _, _, _, fun i => bs.getD i true, rfl, Walks.list (show X.A.in1.handled = none from I.ok.hd hc) _ l ne (bs.map Value.bool).toArray, ⟨⟨_, Heap.get?_push_size _ rfl, rfl, rfl⟩, il.at fun o e => Heap.get?_push_of_some _ e⟩, fun i v s' Q' E' hP hQ => ?_, fun h' tk keep => ?_⟩
  · have hP : (bs.map Value.bool).toArray[i]? = some v := hP
    rw [List.getElem?_toArray, List.getElem?_map] at hP
    cases e : bs[i]? with
    | none => rw [e] at hP; cases hP
    | some b =>
      rw [e] at hP; cases hP
      have hQ : Q' (bs.getD i true) s' := hQ
      rw [show bs.getD i true = b by rw [List.getD_eq_getElem?_getD, e]; rfl] at hQ
      exact wpAny_pure hQ
  · refine ⟨.bl _, H, I.kept fun b o e => keep b o (fun m => ?_) (Heap.get?_push_of_some _ e), rfl, ?_⟩
    · obtain rfl : b = s.heap.objs.size := by simpa using m
      exact absurd (Heap.lt_size e) (Nat.lt_irrefl _)
    · have : (List.range (bs.map Value.bool).toArray.size).all (fun i => bs.getD i true) = bs.all id := by
        rw [List.size_toArray, List.length_map]
        rw [Bool.eq_iff_iff, List.all_eq_true, List.all_eq_true]
        constructor
        · intro h b hb
          obtain ⟨i, hi, rfl⟩ := List.mem_iff_getElem.mp hb
          have := h i (List.mem_range.mpr hi)
          rw [List.getD_eq_getElem?_getD, List.getElem?_eq_getElem hi] at this
          exact this
        · intro h i hi
          have hi := List.mem_range.mp hi
          rw [List.getD_eq_getElem?_getD, List.getElem?_eq_getElem hi]
          exact h _ (List.getElem_mem hi)
      rw [this]
      exact q
end
end L2
namespace L2
open PySem PySem.Spec PyProof.Rows Builtin Builtin.Str
section
variable {prog : Program} {w : World} {A : Around} {E : Value → Shared → Prop} {s : Shared} {it : Addr} {fp wr : List Addr} {G : Array GenState → Array GenState → Prop} {n : Nat} {P : Nat → Value → Prop} {St : Nat → Shared → Prop}
end
def tJoinRev (a : PySem.Str) (te : TE) : TE := fun σ H Q => te σ H fun x H1 => ∃ (l : Addr) (ts : List PySem.Str), x = .ref l ∧ H1 l = some (.lst (ts.map V.str)) ∧ JoinOk a ts.reverse = true ∧ Q (.str (Txt.join a ts.reverse)) H1
end L2
namespace Mt
open PySem PySem.NumText
end Mt
namespace L2
open PySem PySem.Spec PyProof.Rows
def FX (x : Str) (g : TG) (tb : TS) (D : Ends) (σ : St) (H : Hp) : Prop := ∃ Pv : Nat → St → Hp → Prop, Pv 0 σ H ∧ (∀ i c σ H, x.cps[i]? = some c → Pv i σ H → g (.str ⟨#[c]⟩) σ H fun σ2 H2 => tb { D with nx := Pv (i + 1), ct := Pv (i + 1), bk := D.nx } σ2 H2) ∧ ∀ σ H, Pv x.cps.size σ H → D.nx σ H
def tForX (te : TE) (g : TG) (tb : TS) : TS := fun D σ H => te σ H fun v H1 => ∃ x, v = .str x ∧ FX x g tb D σ H1
section
variable {X : Cx} {tg l a elt : Expr} {body : List Stmt} {te tl : TE} {g : TG} {tb : TS} {p pos pos' : Pos} {scope : Scope} {js : List (Option Nat)}
def tCoX (js : List (Option Nat)) (te : TE) (g : TG) (tl : TE) : TE := fun σ H Q => te σ H fun v H1 => ∃ x, v = .str x ∧ CO x.cps.size (fun i _ v => ∃ c, x.cps[i]? = some c ∧ v = .str ⟨#[c]⟩) (fun _ => True) js g tl σ H1 Q
theorem pe_globI {x : Str} {n : Int} (hm : ∃ t, X.mg x = some (.int n t)) (hg : Gl X x := by rfl) (hd : (x == ("__debug__" : Str)) = false := by decide) : PE X (.Name x pos) (tC (.int n)) := by
  obtain ⟨t, hm⟩ := hm
  exact pe_glob hg hm ⟨t, rfl⟩ hd
end
end L2
namespace L2
open PySem PySem.Spec PyProof.Rows
end L2
namespace Mt
def wk (L D s : Nat → Rat) (top h : Nat) : Rat := s h * L h + (if 0 < h then s (h - 1) else 0) + (if h + 1 < top then s (h + 1) * D h else 0)
def row (L D : Nat → Rat) (top i : Nat) : Nat → List Rat
  | 0 => (List.range top).map fun h => if h = i then 1 else 0
  | n + 1 => (List.range top).map fun h => wk L D (cf (row L D top i n)) top h
theorem row_len (L D : Nat → Rat) (top i : Nat) : ∀ n, (row L D top i n).length = top
  | 0 => by simp [row]
  | n + 1 => by simp [row]
abbrev sm (L D : Nat → Rat) (top i n j : Nat) : Rat := cf (row L D top i n) j
section
variable {L D : Nat → Rat} {top : Nat}
theorem sm_zero {i j : Nat} (h : j < top) : sm L D top i 0 j = if j = i then 1 else 0 := by rw [sm, row, cf_map_range, if_pos h]
theorem sm_ge {i n j : Nat} (h : top ≤ j) : sm L D top i n j = 0 := cf_ge (by rw [row_len]; exact h)
theorem sm_succ {i n j : Nat} (h : j < top) : sm L D top i (n + 1) j = wk L D (sm L D top i n) top j := by rw [sm, row, cf_map_range, if_pos h]
def Su (f : Nat → Rat) : Nat → Rat
  | 0 => 0
  | n + 1 => Su f n + f n
theorem Su_congr {f g : Nat → Rat} : ∀ {m : Nat}, (∀ h, h < m → f h = g h) → Su f m = Su g m
  | 0, _ => rfl
  | m + 1, e => by rw [Su, Su, Su_congr fun h hh => e h (by omega), e m (by omega)]
theorem Su_add (f g : Nat → Rat) : ∀ m, Su (fun h => f h + g h) m = Su f m + Su g m
  | 0 => by simp only [Su]; grind
  | m + 1 => by rw [Su, Su, Su, Su_add f g m]; grind
theorem Su_mul (f : Nat → Rat) (c : Rat) : ∀ m, Su (fun h => f h * c) m = Su f m * c
  | 0 => by simp only [Su]; grind
  | m + 1 => by rw [Su, Su, Su_mul f c m]; grind
theorem first {i : Nat} (hi : i < top) : ∀ (n j : Nat), j < top → sm L D top i (n + 1) j = L i * sm L D top i n j + (if i + 1 < top then sm L D top (i + 1) n j else 0) + (if 0 < i then D (i - 1) * sm L D top (i - 1) n j else 0)
  | 0, j, hj => by
    rw [sm_succ hj, sm_zero hj, sm_zero hj, sm_zero hj]
    unfold wk
    rw [sm_zero hj]
    by_cases h1 : j = i
    · subst h1
      rw [if_pos rfl]
      have a : (if 0 < j then sm L D top j 0 (j - 1) else 0) = 0 := by
        split
        · rw [sm_zero (by omega), if_neg (by omega)]
        · rfl
      have b : (if j + 1 < top then sm L D top j 0 (j + 1) * D j else 0) = 0 := by
        split
        · rw [sm_zero (by omega), if_neg (by omega)]; grind
        · rfl
      have c : (if j = j + 1 then (1 : Rat) else 0) = 0 := if_neg (by omega)
      rw [a, b, c]
      by_cases z : 0 < j
      · rw [if_pos z, if_neg (show ¬ j = j - 1 by omega)]; grind
      · rw [if_neg z]; grind
    · rw [if_neg h1]
      have a : (if 0 < j then sm L D top i 0 (j - 1) else 0) = if i + 1 < top then (if j = i + 1 then (1 : Rat) else 0) else 0 := by
        by_cases e : j = i + 1
        · rw [if_pos (by omega), sm_zero (by omega), if_pos (by omega), if_pos (by omega), if_pos e]
        · rw [if_neg e, ite_self]
          split
          · rw [sm_zero (by omega), if_neg (by omega)]
          · rfl
      have b : (if j + 1 < top then sm L D top i 0 (j + 1) * D j else 0) = if 0 < i then D (i - 1) * (if j = i - 1 then (1 : Rat) else 0) else 0 := by
        by_cases e : i = j + 1
        · subst e
          rw [if_pos hi, if_pos (by omega), sm_zero hi, if_pos rfl, if_pos (by omega), show j + 1 - 1 = j by omega]
          grind
        · have z : (if 0 < i then D (i - 1) * (if j = i - 1 then (1 : Rat) else 0) else 0) = 0 := by
            split
            · rw [if_neg (by omega)]; grind
            · rfl
          rw [z]
          split
          · rw [sm_zero (by omega), if_neg (by omega)]; grind
          · rfl
      rw [a, b]
      grind
  | n + 1, j, hj => by
    rw [sm_succ hj, sm_succ (n := n) hj, sm_succ (n := n) hj, sm_succ (n := n) hj]
    unfold wk
    have e0 := first hi n j hj
    by_cases z1 : 0 < j <;> by_cases z2 : j + 1 < top
    · have e1 := first hi n (j - 1) (by omega)
      have e2 := first hi n (j + 1) z2
      simp only [if_pos z1, if_pos z2]
      rw [e0, e1, e2]
      grind
    · have e1 := first hi n (j - 1) (by omega)
      simp only [if_pos z1, if_neg z2]
      rw [e0, e1]
      grind
    · have e2 := first hi n (j + 1) z2
      simp only [if_neg z1, if_pos z2]
      rw [e0, e2]
      grind
    · simp only [if_neg z1, if_neg z2]
      rw [e0]
      grind
def pr (D : Nat → Rat) (i : Nat) : Nat → Rat
  | 0 => 1
  | n + 1 => pr D i n * D (i + n)
theorem far : ∀ (n i h : Nat), i + n < h → sm L D top i n h = 0
  | 0, i, h, e => by
    by_cases z : h < top
    · rw [sm_zero z, if_neg (by omega)]
    · exact sm_ge (by omega)
  | n + 1, i, h, e => by
    by_cases z : h < top
    · rw [sm_succ z]
      unfold wk
      rw [far n i h (by omega), far n i (h - 1) (by omega), far n i (h + 1) (by omega)]
      simp
      grind
    · exact sm_ge (by omega)
theorem straight (i : Nat) : ∀ n, i + n < top → sm L D top i n (i + n) = 1
  | 0, h => by rw [sm_zero (by omega), if_pos (by omega)]
  | n + 1, h => by
    rw [sm_succ h]
    unfold wk
    rw [far n i (i + (n + 1)) (by omega), far n i (i + (n + 1) + 1) (by omega), if_pos (by omega), show i + (n + 1) - 1 = i + n by omega, straight i n (by omega)]
    simp
    grind
end
theorem Lat.one : Lat 1 1 1 := ⟨1, by grind, by decide⟩
abbrev B0 : Nat := 216000
abbrev W0 : Nat := 20001
abbrev Wg (q : Rat) : Prop := Lat B0 (9999 * B0) q
abbrev Gd (n : Nat) (q : Rat) : Prop := Lat (B0 ^ n) (W0 ^ n * B0 ^ n) q
theorem Gd.zero {n : Nat} : Gd n 0 := Lat.zero
theorem Gd.one : Gd 0 1 := Lat.one
theorem gd_step {n : Nat} {a b c d e : Rat} (ha : Gd n a) (hb : Wg b) (hc : Gd n c) (hd : Gd n d) (he : Wg e) :
    Lat (B0 ^ (n + 1)) (W0 ^ (n + 1) * B0 ^ (n + 1)) (a * b) ∧ Lat (B0 ^ (n + 1)) (W0 ^ (n + 1) * B0 ^ (n + 1)) (a * b + c) ∧ Lat (B0 ^ (n + 1)) (W0 ^ (n + 1) * B0 ^ (n + 1)) (d * e) ∧ Gd (n + 1) (a * b + c + d * e) := by
  have h1 : Lat (B0 ^ n * B0) (W0 ^ n * B0 ^ n * (9999 * B0)) (a * b) := ha.mul hb
  have h2 : Lat (B0 ^ n * B0) (W0 ^ n * B0 ^ n * B0) c := hc.up
  have h3 : Lat (B0 ^ n * B0) (W0 ^ n * B0 ^ n * (9999 * B0)) (d * e) := hd.mul he
  have e1 : W0 ^ (n + 1) * B0 ^ (n + 1) = W0 ^ n * B0 ^ n * (20001 * B0) := by rw [Nat.pow_succ, Nat.pow_succ]; simp only [Nat.mul_comm, Nat.mul_left_comm, Nat.mul_assoc, W0]
  show _ ∧ _ ∧ _ ∧ Lat (B0 ^ (n + 1)) (W0 ^ (n + 1) * B0 ^ (n + 1)) _
  rw [e1, Nat.pow_succ B0 n]
  generalize W0 ^ n * B0 ^ n = X at h1 h2 h3 ⊢
  have l : ∀ x y : Nat, x ≤ y → X * (x * B0) ≤ X * (y * B0) := fun x y h => Nat.mul_le_mul_left _ (Nat.mul_le_mul_right _ h)
  have e2 : X * B0 = X * (1 * B0) := by rw [Nat.one_mul]
  rw [e2] at h2
  refine ⟨h1.mono (l _ _ (by decide)), (h1.add h2).mono ?_, h3.mono (l _ _ (by decide)), ((h1.add h2).add h3).mono ?_⟩
  · rw [← Nat.mul_add, ← Nat.add_mul]; exact l (9999 + 1) 20001 (by decide)
  · rw [← Nat.mul_add, ← Nat.add_mul, ← Nat.mul_add, ← Nat.add_mul]; exact l (9999 + 1 + 9999) 20001 (by decide)
theorem gd_wk {n : Nat} {L D s : Nat → Rat} {top h : Nat} (hL : ∀ h, Wg (L h)) (hD : ∀ h, Wg (D h)) (hs : ∀ h, Gd n (s h)) : Gd (n + 1) (wk L D s top h) := by
  unfold wk
  have z : Gd n 0 := Gd.zero
  have w : Wg 0 := Lat.zero
  have e0 : (0 : Rat) = 0 * 0 := by grind
  by_cases a : 0 < h <;> by_cases b : h + 1 < top
  · rw [if_pos a, if_pos b]; exact (gd_step (hs h) (hL h) (hs (h - 1)) (hs (h + 1)) (hD h)).2.2.2
  · rw [if_pos a, if_neg b, e0]; exact (gd_step (hs h) (hL h) (hs (h - 1)) z w).2.2.2
  · rw [if_neg a, if_pos b]; exact (gd_step (hs h) (hL h) z (hs (h + 1)) (hD h)).2.2.2
  · rw [if_neg a, if_neg b, show (0 : Rat) = 0 * 0 + 0 by grind]
    have := (gd_step (hs h) (hL h) z z w).2.2.2
    grind
theorem gd_sm {L D : Nat → Rat} {top i : Nat} (hL : ∀ h, Wg (L h)) (hD : ∀ h, Wg (D h)) : ∀ n j, Gd n (sm L D top i n j)
  | 0, j => by
    by_cases h : j < top
    · rw [sm_zero h]
      split
      · exact Gd.one
      · exact Gd.zero
    · rw [sm_ge (by omega)]; exact Gd.zero
  | n + 1, j => by
    by_cases h : j < top
    · rw [sm_succ h]; exact gd_wk hL hD (gd_sm hL hD n)
    · rw [sm_ge (by omega)]; exact Gd.zero
theorem wg_int {t : Int} (ht : t.natAbs ≤ 9999) : Wg (t : Rat) := ⟨t * 216000, by rw [Rat.intCast_mul]; rfl, by rw [Int.natAbs_mul]; exact Nat.mul_le_mul ht (Nat.le_refl _)⟩
theorem wg_cf {f : List Rat} (h : ∀ q ∈ f, Wg q) (n : Nat) : Wg (cf f n) := by
  by_cases e : n < f.length
  · have := cf_lt e
    exact h _ (List.mem_of_getElem? this)
  · rw [cf_ge (by omega)]; exact Lat.zero
theorem gd_mul {a b : Nat} {x y : Rat} (hx : Gd a x) (hy : Gd b y) : Gd (a + b) (x * y) := by
  have h : Lat (B0 ^ a * B0 ^ b) (W0 ^ a * B0 ^ a * (W0 ^ b * B0 ^ b)) (x * y) := hx.mul hy
  have e : W0 ^ (a + b) * B0 ^ (a + b) = W0 ^ a * B0 ^ a * (W0 ^ b * B0 ^ b) := by rw [Nat.pow_add, Nat.pow_add]; simp only [Nat.mul_comm, Nat.mul_left_comm, Nat.mul_assoc]
  show Lat (B0 ^ (a + b)) (W0 ^ (a + b) * B0 ^ (a + b)) (x * y)
  rw [e, Nat.pow_add]
  exact h
theorem wg_gd {q : Rat} (h : Wg q) : Gd 1 q := by
  show Lat (B0 ^ 1) (W0 ^ 1 * B0 ^ 1) q
  rw [Nat.pow_one, Nat.pow_one]
  exact h.mono (Nat.mul_le_mul_right _ (by decide))
theorem gd_pr {D : Nat → Rat} (hD : ∀ h, Wg (D h)) (i : Nat) : ∀ n, Gd n (pr D i n)
  | 0 => Gd.one
  | n + 1 => gd_mul (gd_pr hD i n) (wg_gd (hD _))
theorem gd_Su {n : Nat} {f : Nat → Rat} (h : ∀ h, Gd n (f h)) : ∀ m, Lat (B0 ^ n) (m * (W0 ^ n * B0 ^ n)) (Su f m)
  | 0 => Lat.zero
  | m + 1 => ((gd_Su h m).add (h m)).mono (by rw [Nat.add_mul, Nat.one_mul]; exact Nat.le_refl _)
def stI (l d : Nat → Int) (top : Nat) (f : List Int) : List Int := (List.range top).map fun h => f.getD h 0 * l h + (if 0 < h then f.getD (h - 1) 0 else 0) + (if h + 1 < top then f.getD (h + 1) 0 * d h else 0)
def rowI (l d : Nat → Int) (top : Nat) : Nat → List Int
  | 0 => (List.range top).map fun h => if h = 0 then 1 else 0
  | n + 1 => stI l d top (rowI l d top n)
theorem getD_map_range {m n : Nat} (F : Nat → Int) (h : n < m) : ((List.range m).map F).getD n 0 = F n := by simp [List.getD, h]
theorem sm_int {L D : Nat → Rat} {l d : Nat → Int} {top : Nat} (hL : ∀ h, h < top → L h = l h) (hD : ∀ h, h + 1 < top → D h = d h) : ∀ n h, h < top → sm L D top 0 n h = ((rowI l d top n).getD h 0 : Int)
  | 0, h, hh => by
    rw [sm_zero hh, rowI, getD_map_range _ hh]
    split <;> rfl
  | n + 1, h, hh => by
    rw [sm_succ hh, rowI, stI, getD_map_range _ hh]
    unfold wk
    rw [sm_int hL hD n h hh, hL h hh, Rat.intCast_add, Rat.intCast_add, Rat.intCast_mul]
    congr 1
    · congr 1
      split
      · rw [sm_int hL hD n (h - 1) (by omega)]
      · rfl
    · split
      · rename_i z
        rw [sm_int hL hD n (h + 1) z, hD h z, Rat.intCast_mul]
      · rfl
def kl (kind h : Nat) : Int := match kind with | 0 => 0 | 1 => 1 | 2 => h + 1 | 3 => 2 * h + 1 | _ => 0
def kd (kind h : Nat) : Int := match kind with | 0 => 1 | 1 => 1 | 2 => h + 1 | 3 => (h + 1) * (h + 1) | _ => h + 1
def known (kind : Nat) : List Int := match kind with
  | 0 => [1, 0, 1, 0, 2, 0, 5, 0, 14, 0, 42, 0, 132, 0, 429, 0]
  | 1 => [1, 1, 2, 4, 9, 21, 51, 127, 323, 835, 2188, 5798, 15511, 41835, 113634, 310572]
  | 2 => [1, 1, 2, 5, 15, 52, 203, 877, 4140, 21147, 115975, 678570, 4213597, 27644437, 190899322, 1382958545]
  | 3 => [1, 1, 2, 6, 24, 120, 720, 5040, 40320, 362880, 3628800, 39916800, 479001600, 6227020800, 87178291200, 1307674368000]
  | _ => [1, 0, 1, 0, 3, 0, 15, 0, 105, 0, 945, 0, 10395, 0, 135135, 0]
theorem known_is : ∀ kind, kind < 5 → ∀ k, k < 8 → ∀ n, n < 2 * k + 2 → (rowI (kl kind) (kd kind) (k + 1) n).getD 0 0 = (known kind).getD n 0 := by decide +kernel
end Mt
namespace Mt
end Mt
namespace L2
open PySem PySem.Spec PyProof.Rows
structure FunD (K : PySem.W.Frag) (x qual : Str) (st : Stmt) (dvs : List V) (f : Addr) (fd : FuncData) : Prop where
  ex : ∃ (T : Addr) (oc : Value) (od : Option Addr) (kV doc pm : Value) (an : Option Addr) (cdv ct : Value) (osl : Array (Option Value)) (o : Obj) (items : Array Value) (n : Nat),
    fd = PySem.W.fnOf x qual (defArgs st) (defBody st) (defScope st) (.ref T) kV doc pm an cdv ct ∧ K.lookup f = some ⟨oc, od, .func fd, osl⟩ ∧ PySem.W.codeIn K cdv qual = true ∧ K.lookup T = some o ∧ o.data = .seq items n ∧ Vals dvs items.toList
  kp : PySem.W.keepIn K (.ref f) = true
section
variable {P : Program} {w : World} {K : PySem.W.Frag} {mg : Str → Option Value} {base : Heap} {x qual : Str} {st : Stmt} {f : Addr} {fd : FuncData} {N ps : List Str} {k : Nat} {sp : Sp} {dvs : List V}
theorem FunD.okE (F : FunD K x qual st dvs f fd) (S : FnScope N ps (defScope st)) (len : ∀ vs H Q E, sp vs H Q E → vs.length = ps.length)
    (hbody : ∀ (cdv : Value) (A : Around) (outer : List Env) (s : Shared) (H : Hp) (vs : List V) (Q : VK) (E : XK), Room k (A.deeper (envOfC qual (defScope st) s.heap.objs.size f cdv)) → sp vs H Q E →
      ∃ t, PSs (cxOf (CXe P w) P w K mg base N qual (defScope st) f cdv A outer s H E).nox (defBody st) t ∧ t { nx := fun _ H' => Q .non H', rt := Q } (start N vs) H) : FnOk P w K mg base (CXe P w) (k + 1) f fd ps sp := by
  obtain ⟨T, oc, od, kV, doc, pm, an, cdv, ct, osl, o, items, n, rfl, lk, hcd, lT, hd, hv⟩ := F.ex
  refine fn_of lk hcd S len fun A outer s H vs Q E hr hsp => ?_
  obtain ⟨t, h, q⟩ := hbody cdv A outer s H vs Q E hr hsp
  exact ⟨t, h.nox, q⟩
theorem FunD.okX (F : FunD K x qual st dvs f fd) (S : FnScope N ps (defScope st)) (len : ∀ vs H Q E, sp vs H Q E → vs.length = ps.length)
    (hbody : ∀ (cdv : Value) (A : Around) (outer : List Env) (s : Shared) (H : Hp) (vs : List V) (Q : VK) (E : XK), Room k (A.deeper (envOfC qual (defScope st) s.heap.objs.size f cdv)) → sp vs H Q E →
      ∃ t, PSs (cxOf (CXe P w) P w K mg base N qual (defScope st) f cdv A outer s H E) (defBody st) t ∧ t { nx := fun _ H' => Q .non H', rt := Q } (start N vs) H) : FnOk P w K mg base (CXe P w) (k + 1) f fd ps sp := by
  obtain ⟨T, oc, od, kV, doc, pm, an, cdv, ct, osl, o, items, n, rfl, lk, hcd, lT, hd, hv⟩ := F.ex
  exact fn_of lk hcd S len fun A outer s H vs Q E hr hsp => hbody cdv A outer s H vs Q E hr hsp
end
section
variable {X : Cx} {k : Nat} {sp : Sp} {ps : List Str} {dvs : List V} {x : Str} {p pos : Pos} {e : Expr} {es : List Expr} {t : TA}
end
def FR2 (i : Int) (n : Nat) (g : TG) (tb : TS) (D : Ends) (σ : St) (H : Hp) : Prop := ∃ Pv : Nat → St → Hp → Prop, Pv 0 σ H ∧ (∀ m σ H, m < n → Pv m σ H → g (.int (i + m)) σ H fun σ2 H2 => tb { D with nx := Pv (m + 1), ct := Pv (m + 1), bk := D.nx } σ2 H2) ∧ ∀ σ H, Pv n σ H → D.nx σ H
def tForR2 (te te2 : TE) (g : TG) (tb : TS) : TS := fun D σ H => te σ H fun v H1 => te2 σ H1 fun v2 H2 => ∃ i : Int, v = .int i ∧ ∃ j : Int, v2 = .int j ∧ (-(2 ^ 62) ≤ i ∧ i < 2 ^ 62 ∧ -(2 ^ 62) ≤ j ∧ j < 2 ^ 62) ∧ FR2 i (j - i).toNat g tb D σ H2
section
variable {X : Cx} {tg a b : Expr} {body : List Stmt} {te te2 : TE} {g : TG} {tb : TS} {p pos pos' : Pos}
theorem ps_forR2 (hc : X.calm = true) (hp : PassesOwn (model X.prog X.w) X.A X.env X.xe) (hm : X.mg "range" = none) (ha : PE X a te) (hb2 : PE X b te2) (hgt : PG X tg g) (hb : PSs X body tb) (hg : Gl X "range" := by rfl)
    (hs : starEach [a, b] X.env = [(false, eval a X.env), (false, eval b X.env)] := by rfl) (hs2 : starEach [b] X.env = [(false, eval b X.env)] := by rfl) :
    PS X (.For tg (.Call (.Name "range" p) [a, b] [] pos') body [] pos) (tForR2 te te2 g tb) := by
  intro pins s σ H D I h
  refine ps_for hp hc (pi_range2 hg hm (pa_cons ha.mo (pa_cons hb2.mo pa_nil (by rw [hs2]; rfl)) (by rw [hs, hs2])) hs hs2) hgt hb (by intro _; rfl) pins s σ H D I ?_
  refine ⟨_, h, fun v H1 h2 => ⟨_, h2, fun v2 H2 ⟨i, e1, j, e2, bd, Pv, p0, pt, pd⟩ => ⟨i, j, by rw [e1, e2], bd, ?_⟩⟩⟩
  exact for_range (lo := i) (n := (j - i).toNat) Pv p0 pt pd
end
section
variable {X : Cx}
end
end L2
namespace L2
open PySem PySem.Spec PyProof.Rows
section
variable {X : Cx}
def nat2 (i j : Int) (n : Nat) : Int := if n = 0 then i else j
theorem at2 {i j : Int} {t u : Tok} {n : Nat} {v : Value} (h : (#[Value.int i t, Value.int j u] : Array Value)[n]? = some v) : ∃ t, v = .int (nat2 i j n) t := by
  rcases n with _ | _ | n
  · exact ⟨t, (by simpa [nat2] using h.symm)⟩
  · exact ⟨u, (by simpa [nat2] using h.symm)⟩
  · simp at h
end
end L2
namespace L2
open PySem PySem.Spec PyProof.Rows
def tVs (vs : List V) : TA := fun _ H Q => Q vs H
end L2
namespace L2
open PySem PySem.Spec PyProof.Rows
section
variable {X : Cx} {e a b : Expr} {es : List Expr} {te ta tb : TE} {t u : TS} {tx : TA} {st : Stmt} {rest body orelse : List Stmt} {pos : Pos}
end
end L2
namespace L2
open PySem PySem.Spec PyProof.Rows
end L2
namespace L2
open PySem PySem.Spec PyProof.Rows
section
variable {prog : Program} {w : World} {A : Around} {E : Value → Shared → Prop} {s : Shared}
end
end L2
namespace L2
open PySem PySem.Spec PyProof.Rows
section
variable {X : Cx} {es : List Expr} {y1 : Nat} {tp : Pos}
end
def CZ (xs ys : List V) (at_ : Hp → Prop) (js : List (Option Nat)) (g : TG) (tl : TE) (σ : St) (H1 : Hp) (Q : VK) : Prop := ∀ D, H1 D = none → ∃ Pv : Nat → List V → St → Hp → Prop, Pv 0 [] (cσ js σ) (upd H1 D (.lst [])) ∧ (∀ i zs σc H, i ≤ xs.length → Pv i zs σc H → at_ H) ∧
  (∀ i zs σc H x y t, xs[i]? = some x → ys[i]? = some y → Pv i zs σc H → H t = none → g (.ref t) σc (upd H t (.tup [x, y])) fun σ2 H2 => tl σ2 H2 fun v H3 => H3 D = some (.lst zs) ∧ zs.length < sizeLine ∧ Pv (i + 1) (zs ++ [v]) σ2 (upd H3 D (.lst (zs ++ [v])))) ∧
  ∀ zs σc H, Pv xs.length zs σc H → H D = some (.lst zs) ∧ Q (.ref D) H
def tCoZ (K : PySem.W.Frag) (js : List (Option Nat)) (te te2 : TE) (g : TG) (tl : TE) : TE := fun σ H Q => te σ H fun v H1 => te2 σ H1 fun v2 H2 => ∃ l, v = .ref l ∧ ∃ m, v2 = .ref m ∧ ∃ xs ys, SqT K H2 l xs ∧ SqL K H2 m ys ∧ xs.length = ys.length ∧ CZ xs ys (fun H => SqT K H l xs ∧ SqL K H m ys) js g tl σ H2 Q
section
variable {X : Cx} {es : List Expr} {y1 : Nat} {tp : Pos} {a b elt : Expr} {te te2 tl : TE} {g : TG} {p pos pos' : Pos} {scope : Scope} {js : List (Option Nat)}
end
end L2
namespace Mt
def l1 (a : Rat) : List Rat := trim [1, -a]
def l2 (d : Rat) : List Rat := trim [0, 0, d]
def nxt (l d : Rat) (f g : List Rat) : List Rat := psub (pmul (l1 l) f) (pmul (l2 d) g)
def en (L D : Nat → Rat) (a b : List Rat) : Nat → List Rat
  | 0 => a
  | 1 => b
  | n + 2 => nxt (L (n + 1)) (D n) (en L D a b (n + 1)) (en L D a b n)
def sh (f : List Rat) (i k : Nat) : Rat := if i ≤ k then cf f (k - i) else 0
theorem mc_ext_left {f f' : List Rat} (e : ∀ n, cf f n = cf f' n) (g : List Rat) (n : Nat) : mc f g n = mc f' g n := by
  rw [mc_comm f g, mc_comm f' g, mc_ext g e]
theorem NZ.le {f : List Rat} (h : NZ f) {n : Nat} (z : ∀ k, n ≤ k → cf f k = 0) : f.length ≤ n := by
  rcases h with rfl | h
  · simp
  · rcases Nat.lt_or_ge n f.length with y | y
    · exact absurd (z _ (by omega)) h
    · exact y
abbrev A0 : Nat := 10001 * B0
def Gp (n : Nat) (f : List Rat) : Prop := ∀ k, Lat (B0 ^ n) (A0 ^ n) (cf f k)
theorem Gp.nil {n : Nat} : Gp n [] := fun k => by rw [cf_nil]; exact Lat.zero
theorem Gp.sh {n : Nat} {f : List Rat} (h : Gp n f) (i k : Nat) : Lat (B0 ^ n) (A0 ^ n) (sh f i k) := by
  unfold Mt.sh
  split
  · exact h _
  · exact Lat.zero
theorem gp_one : Gp 0 [1] := fun k => by
  rcases k with _ | k
  · rw [cf_zero]; exact Lat.one
  · rw [cf_succ, cf_nil]; exact Lat.zero
theorem gp_one1 : Gp 1 [1] := fun k => by
  have h := (gp_one k).up (E := B0)
  simp only [Nat.pow_zero, Nat.one_mul] at h
  rw [Nat.pow_one, Nat.pow_one]
  exact h.mono (by decide)
theorem Gp.ln {n : Nat} {f : List Rat} (h : Gp n f) (hn : n ≤ 9) : Ln 320 320 f := by
  refine ⟨B0 ^ n, A0 ^ n, Nat.pow_pos (by decide), ?_, ?_, h⟩
  · exact Nat.le_trans (Nat.pow_le_pow_right (by decide) hn) (by decide +kernel)
  · exact Nat.le_trans (Nat.pow_le_pow_right (by decide) hn) (by decide +kernel)
def tp (L D : List Rat) (n : Nat) : List Rat := en (cf L) (cf D) [] [1] n
def bt (L D : List Rat) (n : Nat) : List Rat := en (cf L) (cf D) [1] (l1 (cf L 0)) n
theorem NZ_one : NZ [1] := .inr (by show cf [1] 0 ≠ 0; rw [cf_zero]; decide)
end Mt
namespace L2
open PySem PySem.Spec PyProof.Rows
def Pls (K : PySem.W.Frag) (H : Hp) (fs : List (List Rat)) (xs : List V) : Prop := xs.length = fs.length ∧ ∀ (j : Nat) (f : List Rat), fs[j]? = some f → ∃ p, xs[j]? = some (V.ref p) ∧ Pl K H p f
theorem Pls.nil {K : PySem.W.Frag} {H : Hp} : Pls K H [] [] := ⟨rfl, fun j f h => by simp at h⟩
theorem Pls.same {K : PySem.W.Frag} {H H' : Hp} {fs : List (List Rat)} {xs : List V} (h : Pls K H fs xs) (e : Same H H') : Pls K H' fs xs := ⟨h.1, fun j f z => let ⟨p, e1, q⟩ := h.2 j f z; ⟨p, e1, q.same e⟩⟩
theorem Pls.updL {K : PySem.W.Frag} {H : Hp} {D : Addr} {ys : List V} {o : HO} {fs : List (List Rat)} {xs : List V} (hD : H D = some (.lst ys)) (h : Pls K H fs xs) : Pls K (upd H D o) fs xs := ⟨h.1, fun j f z => let ⟨p, e1, q⟩ := h.2 j f z; ⟨p, e1, q.updL hD⟩⟩
theorem Pls.snoc {K : PySem.W.Frag} {H : Hp} {fs : List (List Rat)} {xs : List V} {p : Addr} {f : List Rat} (h : Pls K H fs xs) (k : Pl K H p f) : Pls K H (fs ++ [f]) (xs ++ [.ref p]) := by
  refine ⟨by simp [h.1], fun j g z => ?_⟩
  rcases Nat.lt_or_ge j fs.length with l | l
  · rw [List.getElem?_append_left l] at z
    obtain ⟨q, e, hq⟩ := h.2 j g z
    exact ⟨q, by rw [List.getElem?_append_left (by rw [h.1]; exact l)]; exact e, hq⟩
  · rw [List.getElem?_append_right l] at z
    have j0 : j = fs.length := by
      rcases Nat.lt_or_ge (j - fs.length) 1 with y | y
      · omega
      · rw [List.getElem?_eq_none (by simpa using y)] at z; cases z
    subst j0
    simp at z
    subst z
    exact ⟨p, by rw [← h.1]; simp, k⟩
theorem Pls.cons {K : PySem.W.Frag} {H : Hp} {fs : List (List Rat)} {xs : List V} {p : Addr} {f : List Rat} (k : Pl K H p f) (h : Pls K H fs xs) : Pls K H (f :: fs) (.ref p :: xs) := by
  refine ⟨by simp [h.1], fun j g z => ?_⟩
  rcases j with _ | j
  · simp at z; subst z; exact ⟨p, rfl, k⟩
  · simp at z; exact h.2 j g z
theorem Pls.at {K : PySem.W.Frag} {H : Hp} {m : Nat} {F : Nat → List Rat} {xs : List V} (h : Pls K H ((List.range m).map F) xs) {j : Nat} (hj : j < m) : ∃ p, xs[j]? = some (.ref p) ∧ Pl K H p (F j) := h.2 j (F j) (by simp [hj])
theorem Pls.len {K : PySem.W.Frag} {H : Hp} {m : Nat} {F : Nat → List Rat} {xs : List V} (h : Pls K H ((List.range m).map F) xs) : xs.length = m := by rw [h.1]; simp
theorem Pls.more {K : PySem.W.Frag} {H : Hp} {m : Nat} {F : Nat → List Rat} {xs : List V} {p : Addr} (h : Pls K H ((List.range m).map F) xs) (k : Pl K H p (F m)) : Pls K H ((List.range (m + 1)).map F) (xs ++ [.ref p]) := by
  rw [List.range_succ, List.map_append]; exact h.snoc k
end L2
namespace Mt
def wr (L D : List Rat) (n k : Nat) : Rat := mc (tp L D (n + 1)) (bt L D n) k - mc (tp L D n) (bt L D (n + 1)) k
end Mt
namespace L2
open PySem PySem.Spec PyProof.Rows
end L2
namespace L2
open PySem PySem.Spec PyProof.Rows
section
variable {prog : Program} {w : World} {A : Around} {E : Value → Shared → Prop} {s : Shared}
end
def ExcAt (e0 : Addr) (H : Hp) : Prop := ∃ cls dv, H e0 = some (excD e0 cls dv)
section
variable {X : Cx} {tg : Expr}
def tCoRH (e0 : Addr) (js : List (Option Nat)) (te : TE) (g : TG) (tl : TE) : TE := fun σ H Q => te σ H fun v H1 => ∃ j : Int, v = .int j ∧ -(2 ^ 62) ≤ j ∧ j < 2 ^ 62 ∧ CO j.toNat (fun i _ x => x = .int i) (ExcAt e0) js g tl σ H1 Q
end
section
variable {X : Cx} {CX : CXT} {k : Nat} {f : Addr} {fd : FuncData} {ps : List Str}  {dvs : List V} {ds : List Value} {E : XK} {x : Str} {p pos : Pos} {e : Expr} {es : List Expr} {t : TA}
end
section
variable {P : Program} {w : World} {K : PySem.W.Frag} {mg : Str → Option Value} {base : Heap} {x qual : Str} {st : Stmt} {f : Addr} {fd : FuncData} {N ps : List Str} {k : Nat} {sp : Addr → Sp}
end
def tHE (K : PySem.W.Frag) (c : Value) (i : Nat) (ts : Addr → TS) (th : TH) : TH := fun cls dv D σ H =>
  (PySem.W.exmOne K cls c = some true ∧ ∀ e, H e = none → ts e (D.gone i) (σ.set i (some (.ref e))) (upd H e (excD e cls dv))) ∨ (PySem.W.exmOne K cls c = some false ∧ th cls dv D σ H)
end L2
namespace L2
open PySem PySem.Spec PyProof.Rows
def FZ (xs ys : List V) (at_ : Hp → Prop) (g : TG) (tb : TS) (D : Ends) (σ : St) (H : Hp) : Prop := ∃ Pv : Nat → St → Hp → Prop, Pv 0 σ H ∧ (∀ i σ H, i ≤ xs.length → Pv i σ H → at_ H) ∧
  (∀ i x y σ H t, xs[i]? = some x → ys[i]? = some y → Pv i σ H → H t = none → g (.ref t) σ (upd H t (.tup [x, y])) fun σ2 H2 => tb { D with nx := Pv (i + 1), ct := Pv (i + 1), bk := D.nx } σ2 H2) ∧ ∀ σ H, Pv xs.length σ H → D.nx σ H
def tForZ (K : PySem.W.Frag) (te te2 : TE) (g : TG) (tb : TS) : TS := fun D σ H => te σ H fun v H1 => te2 σ H1 fun v2 H2 => ∃ l, v = .ref l ∧ ∃ m, v2 = .ref m ∧ ∃ xs ys, SqT K H2 l xs ∧ SqL K H2 m ys ∧ xs.length ≤ ys.length ∧ FZ xs ys (fun H => SqT K H l xs ∧ SqL K H m ys) g tb D σ H2
section
variable {X : Cx} {es : List Expr} {y1 : Nat} {tp : Pos} {a b : Expr} {te te2 : TE} {g : TG} {tb : TS} {body : List Stmt} {p pos pos' : Pos}
end
end L2
namespace L2
open PySem PySem.Spec PyProof.Rows
def Fls (K : PySem.W.Frag) (H : Hp) (gs : List (List Rat)) (xs : List V) : Prop := xs.length = gs.length ∧ ∀ (j : Nat) (g : List Rat), gs[j]? = some g → ∃ p ys, xs[j]? = some (V.ref p) ∧ H p = some (.lst ys) ∧ Frs K H g ys
theorem Fls.same {K : PySem.W.Frag} {H H' : Hp} {gs : List (List Rat)} {xs : List V} (h : Fls K H gs xs) (e : Same H H') : Fls K H' gs xs := ⟨h.1, fun j g z => let ⟨p, ys, e1, e2, q⟩ := h.2 j g z; ⟨p, ys, e1, e _ _ e2, q.same e⟩⟩
end L2
namespace L2
open PySem PySem.Spec PyProof.Rows Builtin
section
variable {prog : Program} {w : World} {A : Around}
end
section
variable {prog : Program} {w : World} {A : Around} {E : Value → Shared → Prop} {s : Shared}
end
section
variable {prog : Program} {w : World} {A : Around} {s : Shared} {R : Result → Shared → Prop} {r l : Addr} {xs : Array Value}
end
section
variable {prog : Program} {w : World} {A : Around} {s : Shared} {R : Result → Shared → Prop}
variable {it : Addr} {fp wr : List Addr} {G : Array GenState → Array GenState → Prop} {n : Nat} {P : Nat → Value → Prop} {St : Nat → Shared → Prop}
end
section
variable {prog : Program} {w : World} {A : Around} {E : Value → Shared → Prop} {s : Shared}
variable {it : Addr} {fp wr : List Addr} {G : Array GenState → Array GenState → Prop} {n : Nat} {P : Nat → Value → Prop} {St : Nat → Shared → Prop}
end
section
variable {prog : Program} {w : World} {A : Around} {E : Value → Shared → Prop} {s : Shared} {r l : Addr} {xs : Array Value}
end
section
variable {X : Cx}
def tListRev (K : PySem.W.Frag) (te : TE) : TE := fun σ H Q => te σ H fun x H1 => ∃ a xs, x = .ref a ∧ (SqT K H1 a xs ∨ SqL K H1 a xs) ∧ ∀ l, H1 l = none → Q (.ref l) (upd H1 l (.lst xs.reverse))
end
end L2
namespace Mt
def dot (ms f : List Rat) : Rat := Su (fun n => cf f n * cf ms n) f.length
theorem Su_more (F : Nat → Rat) {n : Nat} (h : ∀ i, n ≤ i → F i = 0) : ∀ k, Su F (n + k) = Su F n
  | 0 => rfl
  | k + 1 => by rw [← Nat.add_assoc, Su, Su_more F h k, h _ (by omega)]; grind
end Mt
namespace Mt
def x1 (l : Rat) : List Rat := trim [-l, 1]
def nx2 (l d : Rat) (f g : List Rat) : List Rat := psub (pmul (x1 l) f) (pscale g d)
def rpf (L D : Nat → Rat) : Nat → List Rat
  | 0 => [1]
  | 1 => nx2 (L 0) 0 [1] []
  | n + 2 => nx2 (L (n + 1)) (D n) (rpf L D (n + 1)) (rpf L D n)
def rp (L D : List Rat) (n : Nat) : List Rat := rpf (cf L) (cf D) n
theorem mc_x1 (l : Rat) (f : List Rat) (k : Nat) : mc (x1 l) f k = sh f 1 k - l * cf f k := by
  rw [x1, mc_ext_left (f' := [-l, 1]) (fun n => cf_trim _ n)]
  rcases k with _ | k
  · simp only [mc, sh]; grind
  · rcases k with _ | k
    · simp only [mc, sh]; grind
    · simp only [mc, sh, Nat.add_sub_cancel]
      rw [if_pos (by omega)]; grind
theorem cf_nx2 (l d : Rat) (f g : List Rat) (k : Nat) : cf (nx2 l d f g) k = sh f 1 k - l * cf f k - d * cf g k := by
  rw [nx2, cf_psub, cf_pmul, cf_pscale, mc_x1]; grind
theorem NZ_nx2 (l d : Rat) (f g : List Rat) : NZ (nx2 l d f g) := NZ_psub _ _
theorem gp_nx2 {n : Nat} {l d : Rat} {f g : List Rat} (hf : Gp (n + 1) f) (hg : Gp n g) (hl : Wg l) (hd : Wg d) : Gp (n + 2) (nx2 l d f g) := by
  intro k
  rw [cf_nx2]
  have h1 : Lat (B0 ^ (n + 1) * B0) (A0 ^ (n + 1) * B0) (sh f 1 k) := (hf.sh 1 k).up
  have h2 : Lat (B0 * B0 ^ (n + 1)) (9999 * B0 * A0 ^ (n + 1)) (l * cf f k) := hl.mul (hf k)
  have h3 : Lat (B0 * B0 ^ n * B0) (9999 * B0 * A0 ^ n * B0) (d * cf g k) := (hd.mul (hg k)).up
  rw [show B0 * B0 ^ (n + 1) = B0 ^ (n + 1) * B0 from Nat.mul_comm _ _] at h2
  rw [show B0 * B0 ^ n = B0 ^ (n + 1) by rw [Nat.pow_succ, Nat.mul_comm]] at h3
  rw [Rat.sub_eq_add_neg, Rat.sub_eq_add_neg, show B0 ^ (n + 2) = B0 ^ (n + 1) * B0 from Nat.pow_succ ..]
  refine ((h1.add h2.neg).add h3.neg).mono ?_
  rw [show A0 ^ (n + 2) = A0 ^ (n + 1) * A0 from Nat.pow_succ .., show A0 ^ (n + 1) = A0 ^ n * A0 from Nat.pow_succ ..]
  generalize A0 ^ n = X
  simp only [A0, B0]
  omega
theorem gp_x1 {a : Rat} (h : Wg a) : Gp 1 (x1 a) := fun k => by
  rw [x1, cf_trim]
  rcases k with _ | _ | k
  · rw [cf_zero, Nat.pow_one, Nat.pow_one]; exact h.neg.mono (by decide)
  · exact gp_one1 0
  · rw [cf_succ, cf_succ, cf_nil]; exact Lat.zero
theorem rp_one_cf (L D : List Rat) (k : Nat) : cf (rp L D 1) k = cf (x1 (cf L 0)) k := by
  show cf (nx2 (cf L 0) 0 [1] []) k = _
  rw [cf_nx2, x1, cf_trim, cf_nil]
  rcases k with _ | _ | k
  · rw [sh, if_neg (by omega), cf_zero, cf_zero]; grind
  · rw [sh, if_pos (by omega), cf_succ, cf_succ, cf_nil, cf_zero]; grind
  · rw [sh, if_pos (by omega), cf_succ, cf_succ, cf_succ, cf_nil, cf_nil, show k + 1 + 1 - 1 = k + 1 by omega, cf_succ, cf_nil]; grind
theorem rp_one (L D : List Rat) : rp L D 1 = x1 (cf L 0) := (NZ_nx2 _ _ _ _).ext (NZ_trim _) (rp_one_cf L D)
theorem x1_is (a : Rat) : x1 a = [-a, 1] := trim_NZ (.inr (by show cf [-a, 1] 1 ≠ 0; rw [cf_succ, cf_zero]; decide))
theorem gp_rp {L D : List Rat} (hL : ∀ h, Wg (cf L h)) (hD : ∀ h, Wg (cf D h)) : ∀ n, Gp n (rp L D n)
  | 0 => gp_one
  | 1 => by rw [rp_one]; exact gp_x1 (hL 0)
  | n + 2 => gp_nx2 (gp_rp hL hD (n + 1)) (gp_rp hL hD n) (hL _) (hD _)
theorem NZ_rp (L D : List Rat) : ∀ n, NZ (rp L D n)
  | 0 => NZ_one
  | 1 => NZ_nx2 _ _ _ _
  | _ + 2 => NZ_nx2 _ _ _ _
theorem rp_top (L D : List Rat) : ∀ n, cf (rp L D n) n = 1 ∧ ∀ k, n < k → cf (rp L D n) k = 0
  | 0 => ⟨rfl, fun k h => by obtain ⟨m, rfl⟩ : ∃ m, k = m + 1 := ⟨k - 1, by omega⟩; show cf [1] (m + 1) = 0; rw [cf_succ, cf_nil]⟩
  | 1 => by
    rw [rp_one, x1_is]
    refine ⟨rfl, fun k h => ?_⟩
    obtain ⟨m, rfl⟩ : ∃ m, k = m + 2 := ⟨k - 2, by omega⟩
    rw [cf_succ, cf_succ, cf_nil]
  | n + 2 => by
    have a := rp_top L D (n + 1)
    have b := rp_top L D n
    have e : ∀ k, cf (rp L D (n + 2)) k = sh (rp L D (n + 1)) 1 k - cf L (n + 1) * cf (rp L D (n + 1)) k - cf D n * cf (rp L D n) k := fun k => cf_nx2 _ _ _ _ k
    constructor
    · rw [e, sh, if_pos (by omega), show n + 2 - 1 = n + 1 by omega, a.1, a.2 _ (by omega), b.2 _ (by omega)]; grind
    · intro k h
      rw [e, sh, if_pos (by omega), a.2 _ (by omega), a.2 _ (by omega), b.2 _ (by omega)]; grind
theorem rp_len (L D : List Rat) (n : Nat) : (rp L D n).length = n + 1 := by
  have h := rp_top L D n
  have a : (rp L D n).length ≤ n + 1 := (NZ_rp L D n).le fun k hk => h.2 k (by omega)
  rcases Nat.lt_or_ge n (rp L D n).length with z | z
  · omega
  · have := h.1
    rw [cf_ge z] at this
    exact absurd this (by decide)
end Mt
namespace Mt
section
variable (L D : List Rat) (T : Nat)
abbrev mu (n : Nat) : Rat := sm (cf L) (cf D) T 0 n 0
def Lx (f : List Rat) (n : Nat) : Rat := Su (fun k => cf f k * mu L D T (k + n)) f.length
variable {L D T}
theorem Lx_ge {f : List Rat} {n N : Nat} (h : f.length ≤ N) : Lx L D T f n = Su (fun k => cf f k * mu L D T (k + n)) N := by
  obtain ⟨m, rfl⟩ : ∃ m, N = f.length + m := ⟨N - f.length, by omega⟩
  rw [Lx, Su_more]
  intro i hi
  rw [cf_ge hi, Rat.zero_mul]
theorem Su_sh (f : List Rat) (F : Nat → Rat) : ∀ N, Su (fun k => sh f 1 k * F k) (N + 1) = Su (fun k => cf f k * F (k + 1)) N
  | 0 => by rw [Su, Su, Su, sh, if_neg (by omega)]; grind
  | N + 1 => by rw [Su, Su_sh f F N, Su, sh, if_pos (by omega), Nat.add_sub_cancel]
theorem Lx_rec {f g h : List Rat} {l d : Rat} (e : ∀ k, cf h k = sh f 1 k - l * cf f k - d * cf g k) (n : Nat) : Lx L D T h n = Lx L D T f (n + 1) - l * Lx L D T f n - d * Lx L D T g n := by
  obtain ⟨N, h1, h2, h3⟩ : ∃ N, f.length ≤ N ∧ g.length ≤ N ∧ h.length ≤ N := ⟨f.length + g.length + h.length, by omega, by omega, by omega⟩
  rw [Lx_ge (f := h) (N := N + 1) (by omega), Lx_ge (f := f) (n := n + 1) h1, Lx_ge (f := f) (n := n) (N := N + 1) (by omega), Lx_ge (f := g) (N := N + 1) (by omega)]
  have e1 : Su (fun k => cf h k * mu L D T (k + n)) (N + 1) = Su (fun k => sh f 1 k * mu L D T (k + n)) (N + 1) + Su (fun k => (cf f k * mu L D T (k + n)) * -l) (N + 1) + Su (fun k => (cf g k * mu L D T (k + n)) * -d) (N + 1) := by
    rw [← Su_add, ← Su_add]
    refine Su_congr fun k _ => ?_
    rw [e]; grind
  rw [e1, Su_mul, Su_mul, Su_sh f (fun k => mu L D T (k + n)) N]
  have e2 : Su (fun k => cf f k * mu L D T (k + 1 + n)) N = Su (fun k => cf f k * mu L D T (k + (n + 1))) N := Su_congr fun k _ => by rw [show k + 1 + n = k + (n + 1) by omega]
  rw [e2]
  grind
def smz (L D : List Rat) (T i n j : Nat) : Rat := if j < T then sm (cf L) (cf D) T i n j else 0
theorem smz_last (i n j : Nat) (hj : j + 1 < T) : smz L D T i (n + 1) (j + 1) = smz L D T i n (j + 1) * cf L (j + 1) + smz L D T i n j + smz L D T i n (j + 2) * cf D (j + 1) := by
  unfold smz
  rw [if_pos hj, if_pos hj, if_pos (show j < T by omega), sm_succ hj]
  unfold wk
  rw [if_pos (by omega), show j + 1 - 1 = j by omega, show j + 1 + 1 = j + 2 by omega]
  split <;> grind
theorem smz_first (i n : Nat) (h : 0 < T) : smz L D T i (n + 1) 0 = smz L D T i n 0 * cf L 0 + smz L D T i n 1 * cf D 0 := by
  unfold smz
  rw [if_pos h, if_pos h, sm_succ h]
  unfold wk
  rw [if_neg (by omega), show (0 : Nat) + 1 = 1 by omega]
  split <;> grind
theorem Lx_row {P : Nat → List Rat} {i : Nat} (hT : 0 < T) (h0 : ∀ n, Lx L D T (P 0) n = smz L D T i n 0) (h1 : ∀ k, cf (P 1) k = sh (P 0) 1 k - cf L 0 * cf (P 0) k) (h2 : ∀ j k, cf (P (j + 2)) k = sh (P (j + 1)) 1 k - cf L (j + 1) * cf (P (j + 1)) k - cf D j * cf (P j) k) : ∀ j, j ≤ T → ∀ n, Lx L D T (P j) n = smz L D T i n j * pr (cf D) 0 j
  | 0, _, n => by rw [h0, pr]; grind
  | 1, hj, n => by
    rw [Lx_rec (f := P 0) (g := P 0) (l := cf L 0) (d := 0) (fun k => by rw [h1]; grind) n, h0, h0, smz_first i n hT, pr, pr, Nat.zero_add]
    grind
  | j + 2, hj, n => by
    have a := Lx_row hT h0 h1 h2 (j + 1) (by omega)
    have b := Lx_row hT h0 h1 h2 j (by omega)
    rw [Lx_rec (f := P (j + 1)) (g := P j) (h2 j) n, a, a, b, smz_last i n j (by omega)]
    have p1 : pr (cf D) 0 (j + 1) = pr (cf D) 0 j * cf D j := by rw [pr, Nat.zero_add]
    have p2 : pr (cf D) 0 (j + 2) = pr (cf D) 0 (j + 1) * cf D (j + 1) := by rw [pr, Nat.zero_add]
    rw [p2, p1]
    grind
theorem rp_one_rec (k : Nat) : cf (rp L D 1) k = sh (rp L D 0) 1 k - cf L 0 * cf (rp L D 0) k := by
  show cf (nx2 (cf L 0) 0 [1] []) k = _
  rw [cf_nx2, cf_nil]
  show _ = sh [1] 1 k - cf L 0 * cf [1] k
  grind
theorem rp_rec (j k : Nat) : cf (rp L D (j + 2)) k = sh (rp L D (j + 1)) 1 k - cf L (j + 1) * cf (rp L D (j + 1)) k - cf D j * cf (rp L D j) k := cf_nx2 _ _ _ _ k
theorem Lx_rp (hT : 0 < T) (j n : Nat) (hj : j ≤ T) : Lx L D T (rp L D j) n = smz L D T 0 n j * pr (cf D) 0 j := by
  refine Lx_row (P := rp L D) (i := 0) hT (fun n => ?_) rp_one_rec rp_rec j hj n
  show Su (fun k => cf [1] k * mu L D T (k + n)) 1 = _
  rw [Su, Su, cf_zero, Nat.zero_add]
  unfold smz
  rw [if_pos hT]
  grind
end
end Mt
namespace Mt
end Mt
namespace L2
open PySem PySem.Spec PyProof.Rows
section
variable {X : Cx} {k : Nat} {sp : Sp} {ps : List Str} {x : Str} {p pos : Pos}
end
end L2
namespace L2
open PySem PySem.Spec PyProof.Rows Builtin
section
variable {X : Cx}
def rCatA (K : PySem.W.Frag) : R2 := fun x y H Q => ∃ a b xs ys, x = .ref a ∧ y = .ref b ∧ SqT K H a xs ∧ SqT K H b ys ∧ xs.length + ys.length ≤ sizeLine ∧
  (xs = [] → Q (.ref b) H) ∧ (xs ≠ [] → ys = [] → Q (.ref a) H) ∧ (xs ≠ [] → ys ≠ [] → ∀ p, H p = none → Q (.ref p) (upd H p (.tup (xs ++ ys))))
theorem op_catA : OpR X (binaryOp .Add) (rCatA X.K) := by
  intro pins s σ H x y v u Q I rx ry h
  obtain ⟨a, b, xs, ys, rfl, rfl, ha, hb, hz, q0, q1, q2⟩ := h
  by_cases hx : xs = []
  · cases rx
    cases ry
    obtain ⟨its, r1, p1, _⟩ := I.tuple ha
    obtain ⟨its2, r2, p2, _⟩ := I.tuple hb
    obtain ⟨⟨cls, dd, data, sl⟩, ho, hc, n, hd⟩ := id p1
    obtain ⟨⟨cls2, dd2, data2, sl2⟩, ho2, hc2, n2, hd2⟩ := id p2
    simp only at hc hd hc2 hd2
    subst hc hd hc2 hd2
    have e0 : its = [] := r1.nil_iff.mpr hx
    exact concat_meets ⟨_, ho, rfl⟩ ⟨_, ho2, rfl⟩ noFill_tuple_add seq_tuple_add PySem.F.slot_tuple_add PySem.F.entry_tuple_add (PySem.F.args_tuple_add_2 _ _)
      (PyProof.Rows.tuple_addW0 a b its.toArray its2.toArray n n2 dd dd2 sl sl2 (by simp [e0])) ⟨ho, ho2, ⟨.ref b, H, I, rfl, q0 hx⟩⟩
  · exact op_catT pins s σ H (.ref a) (.ref b) v u Q I rx ry ⟨a, b, xs, ys, rfl, rfl, ha, hb, hx, hz, q1 hx, q2 hx⟩
end
end L2
namespace Mt
theorem gd_up {n m : Nat} {q : Rat} (h : Gd n q) (hm : n ≤ m) : Gd m q := by
  obtain ⟨c, rfl⟩ : ∃ c, m = n + c := ⟨m - n, by omega⟩
  have a : Lat (B0 ^ n * B0 ^ c) (W0 ^ n * B0 ^ n * B0 ^ c) q := h.up
  show Lat (B0 ^ (n + c)) (W0 ^ (n + c) * B0 ^ (n + c)) q
  rw [Nat.pow_add B0, Nat.pow_add W0]
  refine a.mono ?_
  rw [Nat.mul_assoc]
  exact Nat.mul_le_mul_right _ (Nat.le_mul_of_pos_right _ (Nat.pow_pos (by decide)))
theorem ln_gd {f : List Rat} (h : ∀ k, Gd 15 (cf f k)) : Ln 600 600 f :=
  ⟨B0 ^ 15, W0 ^ 15 * B0 ^ 15, by decide +kernel, by decide +kernel, by decide +kernel, h⟩
theorem lat_dotG {A B C E : Nat} {ms f : List Rat} (hf : ∀ n, Lat A B (cf f n)) (hm : ∀ n, Lat C E (cf ms n)) : ∀ i, Lat (A * C) (i * (B * E)) (Su (fun n => cf f n * cf ms n) i)
  | 0 => Lat.zero
  | i + 1 => by
    rw [Su, Nat.add_mul, Nat.one_mul]
    exact (lat_dotG hf hm i).add ((hf i).mul (hm i))
end Mt
namespace L2
theorem Ln.dot {b c : Nat} {f ms : List Rat} (h : Mt.Ln b b f) (k : Mt.Ln c c ms) {i : Nat} (hi : i ≤ 64) : Sz (b + c + 8) (Mt.Su (fun n => Mt.cf f n * Mt.cf ms n) i) := by
  obtain ⟨D, N, h1, h2, h3, h4⟩ := h.ex
  obtain ⟨E, M, k1, k2, k3, k4⟩ := k.ex
  have l := Mt.lat_dotG h4 k4 i
  have e := l.dvd (by have := Nat.mul_pos h1 k1; omega)
  have d1 := Nat.le_of_dvd (Nat.mul_pos h1 k1) e.1
  have d2 : D * E ≤ 2 ^ (b + c) := by rw [Nat.pow_add]; exact Nat.mul_le_mul h2 k2
  have n2 : i * (N * M) ≤ 2 ^ (b + c + 6) := by
    rw [Nat.pow_add, Nat.pow_add, Nat.mul_comm i]
    exact Nat.mul_le_mul (Nat.mul_le_mul h3 k3) hi
  have p1 : 2 ^ (b + c) < 2 ^ (b + c + 8) := Nat.pow_lt_pow_right (by decide) (by omega)
  have p2 : 2 ^ (b + c + 6) < 2 ^ (b + c + 8) := Nat.pow_lt_pow_right (by decide) (by omega)
  exact ⟨show (_ : Nat) < _ by omega, show (_ : Nat) < _ by show ((_ : Nat) : Int).natAbs < _; omega⟩
end L2
namespace L2
open PySem PySem.Spec PyProof.Rows
section
variable {X : Cx} {tg : Expr}
def tForVL (K : PySem.W.Frag) (te : TE) (g : TG) (tb : TS) : TS := fun D σ H => te σ H fun v H1 => ∃ a xs, v = .ref a ∧ SqL K H1 a xs ∧ FL xs.reverse (fun H => SqL K H a xs) g tb D σ H1
end
section
variable {X : Cx} {es : List Expr} {y1 : Nat} {tp : Pos}
end
def tForZL (K : PySem.W.Frag) (te te2 : TE) (g : TG) (tb : TS) : TS := fun D σ H => te σ H fun v H1 => te2 σ H1 fun v2 H2 => ∃ l, v = .ref l ∧ ∃ m, v2 = .ref m ∧ ∃ xs ys, SqL K H2 l xs ∧ SqL K H2 m ys ∧ xs.length ≤ ys.length ∧ FZ xs ys (fun H => SqL K H l xs ∧ SqL K H m ys) g tb D σ H2
section
variable {X : Cx} {es : List Expr} {y1 : Nat} {tp : Pos} {a b : Expr} {te te2 : TE} {g : TG} {tb : TS} {body : List Stmt} {p pos pos' : Pos}
end
end L2
namespace L2
open PySem PySem.Spec PyProof.Rows
section
variable {X : Cx}
end
end L2
namespace Mt
section
variable {L D : List Rat} {T : Nat}
theorem smz_up {h : Nat} (hh : h < T) : smz L D T 0 h h = 1 := by
  rw [smz, if_pos hh]
  have := straight (L := cf L) (D := cf D) (top := T) 0 h (by omega)
  rw [Nat.zero_add] at this
  exact this
theorem smz_sum : ∀ h, h < T → smz L D T 0 (h + 1) h = Su (cf L) (h + 1)
  | 0, hh => by
    rw [smz_first 0 0 hh, smz_up hh, Su, Su]
    have : smz L D T 0 0 1 = 0 := by
      rw [smz]
      split
      · exact far 0 0 1 (by omega)
      · rfl
    rw [this]; grind
  | h + 1, hh => by
    have e : Su (cf L) (h + 1 + 1) = Su (cf L) (h + 1) + cf L (h + 1) := rfl
    rw [smz_last 0 (h + 1) h hh, smz_up hh, smz_sum h (by omega), e]
    have : smz L D T 0 (h + 1) (h + 2) = 0 := by
      rw [smz]
      split
      · exact far (h + 1) 0 (h + 2) (by omega)
      · rfl
    rw [this]; grind
theorem cf_drop (f : List Rat) (h k : Nat) : cf (f.drop h) k = cf f (k + h) := by
  unfold cf
  rw [List.getD_eq_getElem?_getD, List.getElem?_drop, List.getD_eq_getElem?_getD, Nat.add_comm]
theorem dot_drop {ms : List Rat} (f : List Rat) (h : Nat) (hm : ∀ k, k < f.length + h → cf ms k = mu L D T k) : dot (ms.drop h) f = Lx L D T f h := by
  rw [dot, Lx]
  exact Su_congr fun k hk => by rw [cf_drop, hm (k + h) (by omega)]
theorem back_prod {h : Nat} (hh : h < T) : Lx L D T (rp L D h) h = pr (cf D) 0 h := by rw [Lx_rp (by omega) h h (by omega), smz_up hh]; grind
theorem back_sum {h : Nat} (hh : h < T) : Lx L D T (rp L D h) (h + 1) = Su (cf L) (h + 1) * pr (cf D) 0 h := by rw [Lx_rp (by omega) h (h + 1) (by omega), smz_sum h hh]
end
end Mt
namespace Mt
def pk (s : Rat) (n : Nat) : Rat := pr (fun _ => s) 0 n
theorem pk_zero (s : Rat) : pk s 0 = 1 := rfl
theorem pk_succ (s : Rat) (n : Nat) : pk s (n + 1) = pk s n * s := rfl
theorem gd_pk {s : Rat} (h : Wg s) (n : Nat) : Gd n (pk s n) := gd_pr (fun _ => h) 0 n
theorem sm_scale {L D L' D' : Nat → Rat} {s : Rat} {top : Nat} (hL : ∀ h, h < top → L' h = L h * s) (hD : ∀ h, h + 1 < top → D' h = D h * (s * s)) :
    ∀ n h, h < top → sm L' D' top 0 n h * pk s h = sm L D top 0 n h * pk s n
  | 0, h, hh => by
    rw [sm_zero hh, sm_zero hh]
    split
    · rename_i e; rw [e]
    · grind
  | n + 1, h, hh => by
    have i0 := sm_scale hL hD n h hh
    rw [sm_succ hh, sm_succ hh, wk, wk, pk_succ, hL h hh]
    have i1 : (if 0 < h then sm L' D' top 0 n (h - 1) else 0) * pk s h = (if 0 < h then sm L D top 0 n (h - 1) else 0) * (pk s n * s) := by
      rcases h with _ | h
      · rw [if_neg (by omega), if_neg (by omega)]; grind
      · rw [if_pos (by omega), if_pos (by omega), Nat.add_sub_cancel, pk_succ]
        have := sm_scale hL hD n h (by omega)
        grind
    have i2 : (if h + 1 < top then sm L' D' top 0 n (h + 1) * D' h else 0) * pk s h = (if h + 1 < top then sm L D top 0 n (h + 1) * D h else 0) * (pk s n * s) := by
      by_cases z : h + 1 < top
      · rw [if_pos z, if_pos z, hD h z]
        have := sm_scale hL hD n (h + 1) z
        rw [pk_succ] at this
        grind
      · rw [if_neg z, if_neg z]; grind
    generalize (if 0 < h then sm L' D' top 0 n (h - 1) else 0) = a1 at *
    generalize (if 0 < h then sm L D top 0 n (h - 1) else 0) = a2 at *
    generalize (if h + 1 < top then sm L' D' top 0 n (h + 1) * D' h else 0) = b1 at *
    generalize (if h + 1 < top then sm L D top 0 n (h + 1) * D h else 0) = b2 at *
    grind
theorem sm_scale0 {L D L' D' : Nat → Rat} {s : Rat} {top : Nat} (h0 : 0 < top) (hL : ∀ h, h < top → L' h = L h * s) (hD : ∀ h, h + 1 < top → D' h = D h * (s * s)) (n : Nat) :
    sm L' D' top 0 n 0 = sm L D top 0 n 0 * pk s n := by
  have := sm_scale hL hD n 0 h0
  rw [pk_zero, Rat.mul_one] at this
  exact this
def st : Nat → List Int
  | 0 => [1]
  | n + 1 => (List.range (n + 2)).map fun j => if j = 0 then 0 else if j < n + 1 then (st n).getD (j - 1) 0 + (st n).getD j 0 * j else (st n).getD (j - 1) 0
theorem st_zero (n : Nat) (h : 0 < n) : (st n).getD 0 0 = 0 := by
  obtain ⟨m, rfl⟩ : ∃ m, n = m + 1 := ⟨n - 1, by omega⟩
  simp [st]
theorem st_at {n j : Nat} (h1 : 1 ≤ j) (h2 : j ≤ n + 1) : (st (n + 1)).getD j 0 = if j < n + 1 then (st n).getD (j - 1) 0 + (st n).getD j 0 * j else (st n).getD (j - 1) 0 := by
  rw [st, getD_map_range _ (by omega), if_neg (by omega)]
theorem st_bd : ∀ n, n < 16 → ∀ j, j < 17 → ((st n).getD j 0).natAbs ≤ 2 ^ 31 := by decide +kernel
def tc (a : Rat) (n : Nat) : Rat := Su (fun j => ((st n).getD j 0 : Int) * pk a j) (n + 1)
def powI (p : Int) : Nat → Int
  | 0 => 1
  | n + 1 => powI p n * p
def SuI (f : Nat → Int) : Nat → Int
  | 0 => 0
  | n + 1 => SuI f n + f n
theorem su_int {f : Nat → Rat} {g : Nat → Int} : ∀ {m : Nat}, (∀ h, h < m → f h = g h) → Su f m = (SuI g m : Int)
  | 0, _ => rfl
  | m + 1, h => by rw [Su, SuI, su_int fun i hi => h i (by omega), h m (by omega), Rat.intCast_add]
theorem pk_int (p : Int) : ∀ n, pk (p : Rat) n = (powI p n : Int)
  | 0 => rfl
  | n + 1 => by rw [pk_succ, powI, pk_int p n, Rat.intCast_mul]
theorem sets_is : ∀ p : Nat, p < 10 → ∀ q : Nat, q < 6 → ∀ k, k < 8 → ∀ n, n < 2 * k + 2 → (rowI (fun h => h * q + p) (fun h => (h + 1) * p * q) (k + 1) n).getD 0 0 = SuI (fun j => (st n).getD j 0 * (powI p j * powI q (n - j))) (n + 1) := by decide +kernel
theorem pk_mul (a b : Rat) : ∀ n, pk (a * b) n = pk a n * pk b n
  | 0 => by rw [pk_zero, pk_zero, pk_zero, Rat.mul_one]
  | n + 1 => by rw [pk_succ, pk_succ, pk_succ, pk_mul a b n]; grind
theorem pk_add (a : Rat) (m : Nat) : ∀ n, pk a (m + n) = pk a m * pk a n
  | 0 => by rw [pk_zero, Rat.mul_one, Nat.add_zero]
  | n + 1 => by rw [← Nat.add_assoc, pk_succ, pk_succ, pk_add a m n, Rat.mul_assoc]
theorem pk_ne {a : Rat} (h : a ≠ 0) : ∀ n, pk a n ≠ 0
  | 0 => by rw [pk_zero]; decide
  | n + 1 => by rw [pk_succ]; exact fun z => (Rat.mul_eq_zero.mp z).elim (pk_ne h n) h
def lvS (a : Rat) (h : Nat) : Rat := ((h : Int) : Rat) + a
def dwS (a : Rat) (h : Nat) : Rat := (((h : Int) + 1 : Int) : Rat) * a
theorem sets_sm {p q k n : Nat} {a : Rat} (hp : p < 10) (q0 : 0 < q) (hq : q < 6) (hk : k < 8) (hn : n < 2 * k + 2) (ha : a * ((q : Int) : Rat) = ((p : Int) : Rat)) :
    sm (lvS a) (dwS a) (k + 1) 0 n 0 = tc a n := by
  have qz : ((q : Int) : Rat) ≠ 0 := fun z => by
    have : (q : Int) = 0 := by exact_mod_cast z
    omega
  have e1 := sm_scale0 (L := lvS a) (D := dwS a) (L' := fun h => (((h : Int) * q + p : Int) : Rat)) (D' := fun h => ((((h : Int) + 1) * p * q : Int) : Rat)) (s := ((q : Int) : Rat)) (top := k + 1) (by omega)
    (fun h _ => by
      rw [lvS, Rat.intCast_add, Rat.intCast_mul, ← ha]; grind)
    (fun h _ => by
      rw [dwS, Rat.intCast_mul, Rat.intCast_mul, ← ha]; grind) n
  have e2 := sm_int (L := fun h => (((h : Int) * q + p : Int) : Rat)) (D := fun h => ((((h : Int) + 1) * p * q : Int) : Rat)) (l := fun h => (h : Int) * q + p) (d := fun h => ((h : Int) + 1) * p * q) (top := k + 1) (fun _ _ => rfl) (fun _ _ => rfl) n 0 (by omega)
  rw [sets_is p hp q hq k hk n hn] at e2
  have e3 : tc a n * pk ((q : Int) : Rat) n = (SuI (fun j => (st n).getD j 0 * (powI p j * powI q (n - j))) (n + 1) : Int) := by
    rw [tc, ← Su_mul]
    refine su_int fun j hj => ?_
    have : pk ((q : Int) : Rat) n = pk ((q : Int) : Rat) j * pk ((q : Int) : Rat) (n - j) := by rw [← pk_add]; congr 1; omega
    rw [this, Rat.intCast_mul, Rat.intCast_mul, ← pk_int, ← pk_int, ← ha, pk_mul]
    grind
  rw [← e2, e1] at e3
  have nz := pk_ne qz n
  generalize pk ((q : Int) : Rat) n = x at e3 nz
  have := congrArg (· * x⁻¹) e3
  simp only [Rat.mul_assoc, Rat.mul_inv_cancel x nz, Rat.mul_one] at this
  exact this.symm
def wrw (m : Nat) (flat : Int) : Nat → List Int
  | 0 => 1 :: List.replicate m 0
  | n + 1 => ((List.range m).map fun h => (wrw m flat n).getD (h + 1) 0 + flat * (wrw m flat n).getD h 0 + (if 0 < h then (wrw m flat n).getD (h - 1) 0 else 0)) ++ [0]
theorem wrw_len (m : Nat) (flat : Int) (n : Nat) : (wrw m flat n).length = m + 1 := by cases n <;> simp [wrw]
theorem wrw_is : ∀ flat : Nat, flat < 2 → ∀ k, k < 8 → ∀ n, n < 2 * k + 2 → (wrw (2 * k + 2) flat n).getD 0 0 = (known flat).getD n 0 := by decide +kernel
theorem fac_is : ∀ n, n < 15 → (known 3).getD (n + 1) 0 = (known 3).getD n 0 * (n + 1) := by decide +kernel
theorem par_odd : ∀ n, n < 16 → n % 2 = 1 → (known 4).getD n 0 = 0 := by decide +kernel
theorem par_even : ∀ n, n < 14 → n % 2 = 0 → (known 4).getD (n + 2) 0 = (known 4).getD n 0 * (n + 1) := by decide +kernel
theorem known_bd : ∀ f, f < 5 → ∀ n, n < 16 → ((known f).getD n 0).natAbs ≤ 2 ^ 50 := by decide +kernel
def kk (f : Nat) : Nat := if f = 2 then 3 else f
def cF (f : Nat) (a : Rat) (n : Nat) : Rat := if f = 3 then tc 1 n else if f = 5 then tc a n else ((known (kk f)).getD n 0 : Int)
def lvF (f : Nat) (a : Rat) (h : Nat) : Rat := if f = 3 then lvS 1 h else if f = 5 then lvS a h else (kl (kk f) h : Int)
def dwF (f : Nat) (a : Rat) (h : Nat) : Rat := if f = 3 then dwS 1 h else if f = 5 then dwS a h else (kd (kk f) h : Int)
theorem cF_sm {f p q k n : Nat} {a : Rat} (hf : f < 6) (hp : p < 10) (q0 : 0 < q) (hq : q < 6) (hk : k < 8) (hn : n < 2 * k + 2) (ha : a * ((q : Int) : Rat) = ((p : Int) : Rat)) :
    sm (lvF f a) (dwF f a) (k + 1) 0 n 0 = cF f a n := by
  by_cases f3 : f = 3
  · subst f3
    exact sets_sm (p := 1) (q := 1) (by decide) (by decide) (by decide) hk hn (Rat.one_mul _)
  by_cases f5 : f = 5
  · subst f5
    exact sets_sm hp q0 hq hk hn ha
  rw [cF, if_neg f3, if_neg f5]
  have e := sm_int (L := lvF f a) (D := dwF f a) (l := kl (kk f)) (d := kd (kk f)) (top := k + 1) (fun h _ => by rw [lvF, if_neg f3, if_neg f5]) (fun h _ => by rw [dwF, if_neg f3, if_neg f5]) n 0 (by omega)
  rw [e, known_is (kk f) (by unfold kk; split <;> omega) k hk n hn]
theorem lat_int {z : Int} {N : Nat} (h : z.natAbs ≤ N) : Lat 1 N (z : Rat) := ⟨z, by grind, h⟩
theorem gd_z {z : Int} (h : z.natAbs ≤ 2 ^ 31) : Gd 3 (z : Rat) := by
  have h1 : Lat (1 * B0 ^ 3) (2 ^ 31 * B0 ^ 3) (z : Rat) := (lat_int h).up
  rw [Nat.one_mul] at h1
  exact h1.mono (Nat.mul_le_mul_right _ (by decide))
theorem gd_tc {a : Rat} (wa : Wg a) {n m : Nat} (hn : n < 16) (hm : m ≤ 17) : Lat (B0 ^ 19) (m * (W0 ^ 19 * B0 ^ 19)) (Su (fun j => ((st n).getD j 0 : Int) * pk a j) m) := by
  have e : Su (fun j => (((st n).getD j 0 : Int) : Rat) * pk a j) m = Su (fun j => if j < 17 then (((st n).getD j 0 : Int) : Rat) * pk a j else 0) m := Su_congr fun j hj => by rw [if_pos (by omega)]
  rw [e]
  refine gd_Su (n := 19) (fun j => ?_) m
  split
  · rename_i hj
    exact gd_up (gd_mul (gd_z (st_bd n hn j hj)) (gd_pk wa j)) (by omega)
  · exact Gd.zero
theorem lat60 {t b : Int} {N : Nat} (h1 : 1 ≤ b) (h2 : b ≤ 6) (ht : t.natAbs ≤ N) : Lat 60 (60 * N) (Rat.divInt t b) := by
  have hb : (b : Rat) ≠ 0 := by
    intro z
    have : b = 0 := by exact_mod_cast z
    omega
  have hc : ∃ c : Int, b * c = 60 ∧ c.natAbs ≤ 60 := by
    have : b = 1 ∨ b = 2 ∨ b = 3 ∨ b = 4 ∨ b = 5 ∨ b = 6 := by omega
    rcases this with rfl | rfl | rfl | rfl | rfl | rfl
    · exact ⟨60, by decide, by decide⟩
    · exact ⟨30, by decide, by decide⟩
    · exact ⟨20, by decide, by decide⟩
    · exact ⟨15, by decide, by decide⟩
    · exact ⟨12, by decide, by decide⟩
    · exact ⟨10, by decide, by decide⟩
  obtain ⟨c, e, hc⟩ := hc
  refine ⟨t * c, ?_, ?_⟩
  · have e2 : (((60 : Nat) : Int) : Rat) = (b : Rat) * (c : Rat) := by rw [← Rat.intCast_mul, e]; rfl
    rw [e2, Rat.divInt_eq_div, Rat.intCast_mul]
    grind
  · rw [Int.natAbs_mul, Nat.mul_comm 60]
    exact Nat.mul_le_mul ht hc
theorem low_back {t b : Int} (h1 : 1 ≤ b) : Rat.divInt t b * (b : Rat) = (t : Rat) := by
  have hb : (b : Rat) ≠ 0 := by
    intro z
    have : b = 0 := by exact_mod_cast z
    omega
  rw [Rat.divInt_eq_div]
  grind
theorem lat60_wg {q : Rat} {N : Nat} (h : Lat 60 (60 * N) q) (hN : N ≤ 9999) : Wg q := by
  have h1 : Lat (60 * 3600) (60 * N * 3600) q := h.up
  exact Lat.mono (D := 216000) h1 (by show 60 * N * 3600 ≤ 9999 * 216000; omega)
theorem lat60_int {z : Int} {N : Nat} (h : z.natAbs ≤ N) : Lat 60 (60 * N) (z : Rat) := by
  have h1 : Lat (1 * 60) (N * 60) (z : Rat) := (lat_int h).up
  exact Lat.mono (D := 60) h1 (by omega)
theorem lat60_lv {f h : Nat} {a : Rat} (ha : Lat 60 540 a) (hh : h < 8) : Lat 60 960 (lvF f a h) := by
  unfold lvF
  split
  · exact (lat60_int (N := 8) (z := (h : Int) + 1) (by omega)).mono (by decide) |> fun x => by
      have e : lvS 1 h = (((h : Int) + 1 : Int) : Rat) := by rw [lvS, Rat.intCast_add]; rfl
      rw [e]; exact x
  split
  · exact ((lat60_int (N := 7) (z := (h : Int)) (by omega)).add ha).mono (by decide)
  · have : (kl (kk f) h).natAbs ≤ 16 := by unfold kl; split <;> omega
    exact lat60_int this
theorem lat60_dw {f h : Nat} {a : Rat} (ha : Lat 60 540 a) (hh : h < 7) : Lat 60 4320 (dwF f a h) := by
  have m : ∀ {N : Nat} {q : Rat}, Lat 60 (60 * N) q → N ≤ 72 → Lat 60 4320 q := fun x y => x.mono (by omega)
  unfold dwF
  split
  · have e : dwS 1 h = (((h : Int) + 1 : Int) : Rat) := by rw [dwS, Rat.mul_one]
    rw [e]
    exact m (lat60_int (N := 8) (by omega)) (by decide)
  split
  · have x : Lat (1 * 60) (8 * 540) (dwS a h) := (lat_int (z := (h : Int) + 1) (N := 8) (by omega)).mul ha
    exact x
  · have : (kd (kk f) h).natAbs ≤ 64 := by
      unfold kd
      split
      · decide
      · decide
      · omega
      · rw [Int.natAbs_mul]
        exact Nat.mul_le_mul (show ((h : Int) + 1).natAbs ≤ 8 by omega) (show ((h : Int) + 1).natAbs ≤ 8 by omega)
      · omega
    exact m (lat60_int this) (by decide)
theorem wg_lv {f h : Nat} {a s : Rat} (ha : Lat 60 540 a) (hs : Lat 60 420 s) (hh : h < 8) : Wg (lvF f a h * s) := by
  have x : Lat (60 * 60 * 60) (960 * 420 * 60) (lvF f a h * s) := ((lat60_lv ha hh).mul hs).up
  exact Lat.mono (D := 216000) x (by decide)
theorem wg_dw {f h : Nat} {a s : Rat} (ha : Lat 60 540 a) (hs : Lat 60 420 s) (hh : h < 7) : Wg (dwF f a h * (s * s)) := by
  have x : Lat (60 * (60 * 60)) (4320 * (420 * 420)) (dwF f a h * (s * s)) := (lat60_dw ha hh).mul (hs.mul hs)
  exact Lat.mono (D := 216000) x (by decide)
theorem dw_ne {f h : Nat} {a s : Rat} (a0 : a ≠ 0) (s0 : s ≠ 0) : dwF f a h * (s * s) ≠ 0 := by
  have ne : dwF f a h ≠ 0 := by
    have z : ∀ t : Int, t ≠ 0 → (t : Rat) ≠ 0 := fun t ht y => ht (by exact_mod_cast y)
    unfold dwF
    split
    · rw [dwS, Rat.mul_one]; exact z _ (by omega)
    split
    · exact fun y => (Rat.mul_eq_zero.mp y).elim (z _ (by omega)) a0
    · refine z _ ?_
      unfold kd
      split
      · decide
      · decide
      · omega
      · exact Int.ne_of_gt (Int.mul_pos (by omega) (by omega))
      · omega
  exact fun y => (Rat.mul_eq_zero.mp y).elim ne fun y => (Rat.mul_eq_zero.mp y).elim s0 s0
def lvL (f : Nat) (a s : Rat) (k : Nat) : List Rat := (List.range (k + 1)).map fun h => lvF f a h * s
def dwL (f : Nat) (a s : Rat) (k : Nat) : List Rat := (List.range k).map fun h => dwF f a h * (s * s)
theorem lvL_len (f : Nat) (a s : Rat) (k : Nat) : (lvL f a s k).length = k + 1 := by simp [lvL]
theorem dwL_len (f : Nat) (a s : Rat) (k : Nat) : (dwL f a s k).length = k := by simp [dwL]
theorem known_sm {f p q k n : Nat} {a s : Rat} (hf : f < 6) (hp : p < 10) (q0 : 0 < q) (hq : q < 6) (hk : k < 8) (hn : n < 2 * k + 2) (ha : a * ((q : Int) : Rat) = ((p : Int) : Rat)) :
    sm (cf (lvL f a s k)) (cf (dwL f a s k)) (k + 1) 0 n 0 = cF f a n * pk s n := by
  rw [sm_scale0 (L := lvF f a) (D := dwF f a) (s := s) (by omega) (fun h hh => by rw [lvL, cf_map_range, if_pos hh]) (fun h hh => by rw [dwL, cf_map_range, if_pos (by omega)]) n, cF_sm hf hp q0 hq hk hn ha]
theorem cF_lat {f n : Nat} {a : Rat} (hf : f < 6) (wa : Wg a) (hn : n < 16) : Lat (B0 ^ 19) (17 * (W0 ^ 19 * B0 ^ 19)) (cF f a n) := by
  have m : ∀ {x : Nat} {q : Rat}, Lat (B0 ^ 19) (x * (W0 ^ 19 * B0 ^ 19)) q → x ≤ 17 → Lat (B0 ^ 19) (17 * (W0 ^ 19 * B0 ^ 19)) q := fun y h => y.mono (Nat.mul_le_mul_right _ h)
  unfold cF
  split
  · exact m (gd_tc (wg_int (t := 1) (by decide)) hn (by omega)) (by omega)
  split
  · exact m (gd_tc wa hn (by omega)) (by omega)
  · have h1 : Lat (1 * B0 ^ 19) (2 ^ 50 * B0 ^ 19) (((known (kk f)).getD n 0 : Int) : Rat) := (lat_int (known_bd (kk f) (by unfold kk; split <;> omega) n hn)).up
    rw [Nat.one_mul] at h1
    exact h1.mono (by rw [← Nat.mul_assoc]; exact Nat.mul_le_mul_right _ (by decide +kernel))
theorem lvF_at (a : Rat) (h : Nat) : lvF 0 a h = ((0 : Int) : Rat) ∧ lvF 1 a h = ((1 : Int) : Rat) ∧ lvF 2 a h = ((2 * (h : Int) + 1 : Int) : Rat) ∧ lvF 3 a h = (((h : Int) + 1 : Int) : Rat) ∧ lvF 4 a h = ((0 : Int) : Rat) ∧ lvF 5 a h = ((h : Int) : Rat) + a := by
  refine ⟨rfl, rfl, rfl, ?_, rfl, rfl⟩
  show lvS 1 h = _
  rw [lvS, Rat.intCast_add]; rfl
theorem dwF_at (a : Rat) (h : Nat) : dwF 0 a h = ((1 : Int) : Rat) ∧ dwF 1 a h = ((1 : Int) : Rat) ∧ dwF 2 a h = ((((h : Int) + 1) * ((h : Int) + 1) : Int) : Rat) ∧ dwF 3 a h = (((h : Int) + 1 : Int) : Rat) ∧ dwF 4 a h = (((h : Int) + 1 : Int) : Rat) ∧ dwF 5 a h = (((h : Int) + 1 : Int) : Rat) * a := by
  refine ⟨rfl, rfl, rfl, ?_, rfl, rfl⟩
  show dwS 1 h = _
  rw [dwS, Rat.mul_one]
end Mt
namespace K24
open PySem L2
theorem cx_K {CX : CXT} {P : Program} {w : World} {K : PySem.W.Frag} {mg : Str → Option Value} {base : Heap} {N : List Str} {qual : Str} {scope : Scope} {f : Addr} {cd : Value} {A : Around} {outer : List Env} {s : Shared} {H : Hp} {E : XK} : (cxOf CX P w K mg base N qual scope f cd A outer s H E).K = K := rfl
theorem cxU_K {CX : CXT} {P : Program} {w : World} {K : PySem.W.Frag} {mg : Str → Option Value} {base : Heap} {N : List Str} {qual : Str} {scope : Scope} {f : Addr} {cd : Value} {A : Around} {outer : List Env} {s : Shared} {H : Hp} {E : XK} : (cxU CX P w K mg base N qual scope f cd A outer s H E).K = K := rfl
local macro_rules | `(tactic| walk_at "rd") => `(tactic| simp [tSeq, tIfS, tTest, tB, tOp, rI, rI0, rEq, rNe, scal, tVar, tC, tCB, tCons, tNil, tNext, tRet, tRetN, L2.start, rIxL, rIxT, rFqI, tAsg, gName, tUn, rU, tNot, tNotV, tAnd, tOr, tAndV, tOrV, tIf, tTup, tLst, tCall, tCallS, tDrop, tForR, tForT, tForL, tForE, tForV, gTup, gCons, gNil, gSub, rSetL, tRaise, tTry, tH, Ends.gone, cσ, CPow, tCoR, tCoL, tCoT, tCoX, tForX, tExcInit, tFs, sXset, tXget, tRaiseI, tJoinRev, tChain, rAll, tHno, cx_K, cxU_K, rIn, tSl, tNoPart, tPart, rAppend, tBM, tForR2, tBM0, rClear, rReverse, tPar, tVs, tCoZ, tCoRH, tHE, tListRev, tForZ, tForVL, tForZL])
def top (i : Nat) : Stmt := PySem.Challenge.pw_heightfractions_k24_known_weights_told_b.main.body.getD i (.Pass ⟨0, 0, 0, 0⟩)
structure Tx (w : World) (K : PySem.W.Frag) (mg : Str → Option Value) (C_NOUGHT : Addr) (C_NoFraction : Addr) (C_NoMoments : Addr) (C_ONE : Addr) (C_TooFar : Addr) : Prop where
  b_abs : mg "abs" = none
  b_all : mg "all" = none
  b_bool : mg "bool" = none
  b_enumerate : mg "enumerate" = none
  b_int : mg "int" = none
  b_isinstance : mg "isinstance" = none
  b_len : mg "len" = none
  b_list : mg "list" = none
  b_max : mg "max" = none
  b_range : mg "range" = none
  b_tuple : mg "tuple" = none
  m_NOUGHT : mg "NOUGHT" = some (.ref C_NOUGHT)
  m_NoFraction : mg "NoFraction" = some (.ref C_NoFraction)
  m_NoMoments : mg "NoMoments" = some (.ref C_NoMoments)
  m_ONE : mg "ONE" = some (.ref C_ONE)
  m_TooFar : mg "TooFar" = some (.ref C_TooFar)
  nought : ∀ H, Fq K H C_NOUGHT 0
  one : ∀ H, Fq K H C_ONE 1
  x_TooFar : ExcC K C_TooFar
  x_NoMoments : ExcC K C_NoMoments
  x_NoFraction : ExcC K C_NoFraction
  g_MOSTM : ∃ t, mg "MOST_MOMENTS" = some (.int 16 t)
theorem bd_ten60 {g : Int} : CDivB g 1000000000000000000000000000000000000000000000000000000000000 := ⟨by decide, Bd.mono (m := 200) (by show (_ : Nat) < _; decide) (by decide)⟩
def spCell (K : PySem.W.Frag) : Sp := fun vs H Q _ => ∃ (a : Addr) (ns : List Int) (k : Int), vs = [.ref a, .int k] ∧ SqL K H a (ns.map V.int) ∧ 0 ≤ k ∧ ∀ c : Int, Q (.int c) H
def spStir : Sp := fun vs H Q _ => ∃ (c k : Int), vs = [.int c, .int k] ∧ 0 ≤ k ∧ k ≤ 1000 ∧ ∀ d : Int, 0 ≤ d → d < 1000000000000000000000000000000000000000000000000000000000000 → Q (.int d) H
def spDrawn (K : PySem.W.Frag) : Sp := fun vs H Q _ => ∃ (a : Addr) (ns : List Int) (k : Int), vs = [.ref a, .int k] ∧ SqL K H a (ns.map V.int) ∧ 0 ≤ k ∧ k ≤ 1000 ∧ ∀ d : Int, 0 ≤ d → d < 1000000000000000000000000000000000000000000000000000000000000 → Q (.int d) H
def spGcd : Sp := fun vs H Q _ => ∃ (a b : Int), vs = [.int a, .int b] ∧ Q (.int (Int.gcd a b : Nat)) H
def spWhole : Sp := fun vs H Q _ => ∃ (a : Int), vs = [.int a] ∧ Q (.bl true) H
def spLow : Sp := fun vs H Q _ => ∃ (t b : Int), vs = [.int t, .int b] ∧ 0 < b ∧ Bd 9000 b ∧ ∀ p, H p = none → Q (.ref p) (upd H p (frO (Rat.divInt t b)))
def spBin (K : PySem.W.Frag) (f : Rat → Rat → Rat) : Sp := fun vs H Q _ => ∃ (p q : Addr) (a b : Rat), vs = [.ref p, .ref q] ∧ Fq K H p a ∧ Fq K H q b ∧ Sz 4000 a ∧ Sz 4000 b ∧ ∀ r H', Same H H' → H r = none → H' r = some (frO (f a b)) → Q (.ref r) H'
def spOver (K : PySem.W.Frag) (C : Addr) : Sp := fun vs H Q E => ∃ (p q : Addr) (a b : Rat), vs = [.ref p, .ref q] ∧ Fq K H p a ∧ Fq K H q b ∧ Sz 4000 a ∧ Sz 4000 b ∧ (b = 0 → E (.ref C) none H) ∧ (b ≠ 0 → ∀ r H', Same H H' → H r = none → H' r = some (frO (a / b)) → Q (.ref r) H')
def spIsFq (K : PySem.W.Frag) : Sp := fun vs H Q _ => ∃ (p : Addr) (q : Rat), vs = [.ref p] ∧ Fq K H p q ∧ Q (.bl true) H
def spPolyOf (K : PySem.W.Frag) : Sp := fun vs H Q _ => ∃ (a : Addr) (xs : List V) (f : List Rat), vs = [.ref a] ∧ (SqL K H a xs ∨ SqT K H a xs) ∧ Frs K H f xs ∧ f.length ≤ 900 ∧ ∀ p H', Same H H' → Pl K H' p (Mt.trim f) → Q (.ref p) H'
def spNumAt (K : PySem.W.Frag) : Sp := fun vs H Q _ => ∃ (p : Addr) (f : List Rat) (n : Nat), vs = [.ref p, .int n] ∧ Pl K H p f ∧ ∀ r, Fq K H r (Mt.cf f n) → Q (.ref r) H
def spPP (K : PySem.W.Frag) (op : List Rat → List Rat → List Rat) : Sp := fun vs H Q _ => ∃ (p q : Addr) (f g : List Rat), vs = [.ref p, .ref q] ∧ Pl K H p f ∧ Pl K H q g ∧ f.length ≤ 400 ∧ g.length ≤ 400 ∧ (∀ n, Sz 3990 (Mt.cf f n)) ∧ (∀ n, Sz 3990 (Mt.cf g n)) ∧ ∀ r H', Same H H' → Pl K H' r (op f g) → Q (.ref r) H'
def spScaled (K : PySem.W.Frag) : Sp := fun vs H Q _ => ∃ (p q : Addr) (f : List Rat) (a : Rat), vs = [.ref p, .ref q] ∧ Pl K H p f ∧ Fq K H q a ∧ f.length ≤ 400 ∧ (∀ n, Sz 4000 (Mt.cf f n)) ∧ Sz 4000 a ∧ ∀ r H', Same H H' → Pl K H' r (Mt.pscale f a) → Q (.ref r) H'
def spDeg (K : PySem.W.Frag) : Sp := fun vs H Q _ => ∃ (p : Addr) (f : List Rat), vs = [.ref p] ∧ Pl K H p f ∧ Q (.int ((f.length : Int) - 1)) H
def Wt (K : PySem.W.Frag) (H : Hp) (p : Addr) (L D : List Rat) : Prop := ∃ a b, SqT K H p [.ref a, .ref b] ∧ Pl K H a L ∧ Pl K H b D
theorem Wt.same {K : PySem.W.Frag} {H H' : Hp} {p : Addr} {L D : List Rat} (h : Wt K H p L D) (s : Same H H') : Wt K H' p L D := let ⟨a, b, h0, h1, h2⟩ := h; ⟨a, b, s.seqT h0, h1.same s, h2.same s⟩
structure Ws (L D : List Rat) : Prop where
  l : ∀ q ∈ L, Mt.Wg q
  d : ∀ q ∈ D, Mt.Wg q
  n : L.length = D.length + 1
  m : D.length ≤ 7
theorem lat_sz {D N m : Nat} {q : Rat} (h : Mt.Lat D N q) (hD : 0 < D) (h1 : D < 2 ^ m) (h2 : N < 2 ^ m) : Sz m q := by
  have e := h.dvd (by omega)
  have l := Nat.le_of_dvd hD e.1
  exact ⟨show (_ : Nat) < _ by omega, show (_ : Nat) < _ by show ((q.den : Int)).natAbs < _; omega⟩
theorem gd_le {n : Nat} (h : n ≤ 32) : Mt.B0 ^ n < 2 ^ 1290 ∧ 8 * (Mt.W0 ^ n * Mt.B0 ^ n) < 2 ^ 1290 := by
  have a : Mt.B0 ^ n ≤ Mt.B0 ^ 32 := Nat.pow_le_pow_right (by decide) h
  have b : Mt.W0 ^ n ≤ Mt.W0 ^ 32 := Nat.pow_le_pow_right (by decide) h
  have c : Mt.B0 ^ 32 < 2 ^ 1290 := by decide +kernel
  have d : 8 * (Mt.W0 ^ 32 * Mt.B0 ^ 32) < 2 ^ 1290 := by decide +kernel
  exact ⟨Nat.lt_of_le_of_lt a c, Nat.lt_of_le_of_lt (Nat.mul_le_mul_left _ (Nat.mul_le_mul b a)) d⟩
theorem gd_sz {n : Nat} {q : Rat} (h : Mt.Gd n q) (hn : n ≤ 32) : Sz 1300 q := (lat_sz (m := 1290) h (Nat.pow_pos (by decide)) (gd_le hn).1 (by have := (gd_le hn).2; omega)).mono (by decide)
theorem wg_sz {q : Rat} (h : Mt.Wg q) : Sz 1300 q := (lat_sz (m := 100) h (by decide) (by decide) (by decide)).mono (by decide)
theorem Ws.sm {L D : List Rat} (h : Ws L D) {n : Nat} (hn : n ≤ 32) (top i j : Nat) : Sz 1300 (Mt.sm (Mt.cf L) (Mt.cf D) top i n j) := gd_sz (Mt.gd_sm (Mt.wg_cf h.l) (Mt.wg_cf h.d) n j) hn
def spMulP (K : PySem.W.Frag) : Sp := fun vs H Q _ => ∃ (p q : Addr) (f g : List Rat) (b c : Nat), vs = [.ref p, .ref q] ∧ Pl K H p f ∧ Pl K H q g ∧ f.length ≤ 64 ∧ g.length ≤ 64 ∧ Mt.Ln b b f ∧ Mt.Ln c c g ∧ b + c + 20 ≤ 3990 ∧ ∀ r H', Same H H' → Pl K H' r (Mt.pmul f g) → Q (.ref r) H'
theorem len_pmul (f g : List Rat) : (Mt.pmul f g).length ≤ f.length + g.length := Nat.le_trans (Mt.trim_len _) (by rw [Mt.prodIn_len]; omega)
def spFurther (K : PySem.W.Frag) : Sp := fun vs H Q _ => ∃ (pl pn pd pb : Addr) (l d : Rat) (f g : List Rat), vs = [.ref pl, .ref pn, .ref pd, .ref pb] ∧ Fq K H pl l ∧ Pl K H pn f ∧ Fq K H pd d ∧ Pl K H pb g ∧ Mt.Wg l ∧ Mt.Wg d ∧ f.length ≤ 30 ∧ g.length ≤ 30 ∧ Mt.Ln 320 320 f ∧ Mt.Ln 320 320 g ∧ ∀ r H', Same H H' → Pl K H' r (Mt.nx2 l d f g) → Q (.ref r) H'
theorem rp_ln {L D : List Rat} (h : Ws L D) {n : Nat} (hn : n ≤ 9) : Mt.Ln 320 320 (Mt.rp L D n) := (Mt.gp_rp (Mt.wg_cf h.l) (Mt.wg_cf h.d) n).ln hn
theorem Frs.reverse {K : PySem.W.Frag} {H : Hp} : ∀ {f : List Rat} {xs : List V}, L2.Frs K H f xs → L2.Frs K H f.reverse xs.reverse
  | [], xs, h => by
    have := h.len
    cases xs with
    | nil => exact L2.Frs.nil
    | cons _ _ => simp at this
  | q :: f, xs, h => by
    obtain ⟨p, ys, rfl, hq, hf⟩ := h.uncons
    rw [List.reverse_cons, List.reverse_cons]
    exact L2.Frs.snoc (Frs.reverse hf) hq
def momL (L D : List Rat) : List Rat := (List.range (2 * D.length + 2)).map fun n => Mt.sm (Mt.cf L) (Mt.cf D) (D.length + 1) 0 n 0
theorem momL_len (L D : List Rat) : (momL L D).length = 2 * D.length + 2 := by simp [momL]
theorem momL_at {L D : List Rat} {n : Nat} (h : n < 2 * D.length + 2) : Mt.cf (momL L D) n = Mt.sm (Mt.cf L) (Mt.cf D) (D.length + 1) 0 n 0 := by rw [momL, Mt.cf_map_range, if_pos h]
def spRuledG (K : PySem.W.Frag) (C : Addr) : Sp := fun vs H Q E => ∃ (m p : Addr) (xs : List V) (ms f : List Rat), vs = [.ref m, .ref p] ∧ SqL K H m xs ∧ Frs K H ms xs ∧ Pl K H p f ∧ f.length ≤ 40 ∧ (∀ n, Sz 1300 (Mt.cf ms n)) ∧ (∀ n, Sz 1300 (Mt.cf f n)) ∧ (∀ i, i ≤ f.length → Sz 3900 (Mt.Su (fun n => Mt.cf f n * Mt.cf ms n) i)) ∧ (ms.length < f.length → E (.ref C) none H) ∧ (f.length ≤ ms.length → ∀ r H', Same H H' → Fq K H' r (Mt.dot ms f) → Q (.ref r) H')
def spChkM (K : PySem.W.Frag) (C : Addr) : Sp := fun vs H Q E => ∃ (m : Addr) (xs : List V) (ms : List Rat), vs = [.ref m] ∧ SqL K H m xs ∧ Frs K H ms xs ∧ ms.length % 2 = 0 ∧ 2 ≤ ms.length ∧ ms.length ≤ 16 ∧ Mt.cf ms 0 = 1 ∧ ∀ H', Same H H' → Q .non H'
def spBack (K : PySem.W.Frag) : Sp := fun vs H Q _ => ∃ (m : Addr) (xs : List V) (L D : List Rat), vs = [.ref m] ∧ SqL K H m xs ∧ Frs K H (momL L D) xs ∧ Ws L D ∧
  ((∀ h, h < D.length → Mt.cf D h ≠ 0) → ∀ r a b H', Same H H' → H' r = some (.tup [.str "weights", .ref a, .ref b]) → Pl K H' a L → Pl K H' b D → Q (.ref r) H') ∧
  (∀ h0, h0 < D.length → Mt.cf D h0 = 0 → (∀ h, h < h0 → Mt.cf D h ≠ 0) → ∀ r p H', Same H H' → H' r = some (.tup [.str "barred", .int ((h0 : Int) + 2), .ref p]) → Pl K H' p (Mt.rp L D (h0 + 1)) → Q (.ref r) H')
theorem momL_ln {L D : List Rat} (ws : Ws L D) (h : Nat) : Mt.Ln 600 600 ((momL L D).drop h) := Mt.ln_gd fun q => by
  have wm := ws.m
  rw [Mt.cf_drop]
  by_cases z : q + h < 2 * D.length + 2
  · rw [momL_at z]
    exact Mt.gd_up (Mt.gd_sm (Mt.wg_cf ws.l) (Mt.wg_cf ws.d) (q + h) 0) (by omega)
  · rw [Mt.cf_ge (by rw [momL_len]; omega)]
    exact Mt.Gd.zero
theorem catP {K : PySem.W.Frag} {H : Hp} {x y : Addr} {f g : List Rat} {Q : VK} (hx : Pl K H x f) (hy : Pl K H y g) (lf : f.length ≤ 500) (lg : g.length ≤ 500) (q : ∀ z H', Same H H' → Pl K H' z (f ++ g) → Q (.ref z) H') : rCatA K (.ref x) (.ref y) H Q := by
  obtain ⟨us, hu, fu⟩ := id hx
  obtain ⟨vs, hv, fv⟩ := id hy
  have l1 := fu.len
  have l2 := fv.len
  refine ⟨x, y, us, vs, rfl, rfl, hu, hv, sz_le _ (by omega), fun z => ?_, fun _ z => ?_, fun _ _ p np => ?_⟩
  · obtain rfl : f = [] := List.eq_nil_of_length_eq_zero (by rw [l1, z]; rfl)
    exact q y H (Same.refl _) hy
  · obtain rfl : g = [] := List.eq_nil_of_length_eq_zero (by rw [l2, z]; rfl)
    exact q x H (Same.refl _) (by rw [List.append_nil]; exact hx)
  · have u := same_upd (o := .tup (us ++ vs)) np
    exact q p _ u ⟨_, SqT.of upd_same, Frs.append (fu.same u) (fv.same u)⟩
def RowsAt (K : PySem.W.Frag) (H : Hp) (D : Addr) (F : Nat → List Rat) (m : Nat) : Prop := ∃ zs, H D = some (.lst zs) ∧ zs.length = m ∧ ∀ j, j < m → ∃ p ys, zs[j]? = some (V.ref p) ∧ H p = some (.lst ys) ∧ Frs K H (F j) ys ∧ p ≠ D
theorem RowsAt.same {K : PySem.W.Frag} {H H' : Hp} {D : Addr} {F : Nat → List Rat} {m : Nat} (h : RowsAt K H D F m) (s : Same H H') : RowsAt K H' D F m := by
  obtain ⟨zs, hz, lz, r⟩ := h
  exact ⟨zs, s _ _ hz, lz, fun j hj => let ⟨p, ys, e, h, f, n⟩ := r j hj; ⟨p, ys, e, s _ _ h, f.same s, n⟩⟩
theorem RowsAt.more {K : PySem.W.Frag} {H : Hp} {D R : Addr} {F : Nat → List Rat} {m : Nat} {zs ys : List V} (hz : H D = some (.lst zs)) (lz : zs.length = m) (r : ∀ j, j < m → ∃ p ys, zs[j]? = some (V.ref p) ∧ H p = some (.lst ys) ∧ Frs K H (F j) ys ∧ p ≠ D) (hR : H R = some (.lst ys)) (fR : Frs K H (F m) ys) (ne : R ≠ D) :
    RowsAt K (upd H D (.lst (zs ++ [.ref R]))) D F (m + 1) := by
  refine ⟨_, upd_same, by simp [lz], fun j hj => ?_⟩
  rcases Nat.lt_or_ge j m with y | y
  · obtain ⟨p, us, e, h, f, n⟩ := r j y
    exact ⟨p, us, by rw [List.getElem?_append_left (by omega)]; exact e, by rw [upd_ne n]; exact h, Frs.updL hz f, n⟩
  · obtain rfl : j = m := by omega
    exact ⟨R, ys, by rw [List.getElem?_append_right (by omega), lz]; simp, by rw [upd_ne ne]; exact hR, Frs.updL hz fR, ne⟩
theorem back_down {D : List Rat} {i : Nat} (h : ∀ j, j < i → Mt.pr (Mt.cf D) 0 j ≠ 0) : Mt.pr (Mt.cf D) 0 i / Mt.pr (Mt.cf D) 0 (i - 1) = Mt.cf (1 :: D) i := by
  rcases i with _ | i
  · show (1 : Rat) / 1 = Mt.cf (1 :: D) 0
    rw [Mt.cf_zero]; grind
  · rw [Nat.add_sub_cancel, Mt.cf_succ, Mt.pr, Nat.zero_add, Rat.mul_comm, Rat.div_def, Rat.mul_assoc, Rat.mul_inv_cancel _ (h i (by omega)), Rat.mul_one]
theorem back_next (L D : List Rat) (i : Nat) : Mt.nx2 (Mt.cf L i) (Mt.cf (1 :: D) i) (Mt.rp L D i) (if i = 0 then [] else Mt.rp L D (i - 1)) = Mt.rp L D (i + 1) := by
  rcases i with _ | i
  · rw [if_pos rfl]
    refine (Mt.NZ_nx2 _ _ _ _).ext (Mt.NZ_rp L D 1) fun k => ?_
    show _ = Mt.cf (Mt.nx2 (Mt.cf L 0) 0 [1] []) k
    rw [Mt.cf_nx2, Mt.cf_nx2, Mt.cf_nil]
    show _ = Mt.sh [1] 1 k - Mt.cf L 0 * Mt.cf [1] k - 0 * 0
    rw [Rat.mul_zero, Rat.mul_zero]
    rfl
  · rw [if_neg (by omega), Mt.cf_succ, Nat.add_sub_cancel]
    rfl
def spTldW (K : PySem.W.Frag) : Sp := fun vs H Q _ => ∃ (r a b : Addr) (L D : List Rat), vs = [.ref r] ∧ H r = some (.tup [.str "weights", .ref a, .ref b]) ∧ Pl K H a L ∧ Pl K H b D ∧ L.length ≤ 100 ∧ D.length ≤ 100 ∧ ∀ H', Same H H' → Q (.bl true) H'
def spLaw (K : PySem.W.Frag) : Sp := fun vs H Q _ => ∃ (a : Addr) (ns : List Int), vs = [.ref a] ∧ SqL K H a (ns.map V.int) ∧ ns.length ≤ 63 ∧ ∀ H', Q (.bl true) H'
def spWays24 (K : PySem.W.Frag) : Sp := fun vs H Q _ => ∃ (k f : Nat), vs = [.int (2 * (k : Int) + 2), .int f] ∧ k < 8 ∧ f < 2 ∧ ∀ S H' xs, Same H H' → H S = none → H' S = some (.lst xs) → Frs K H' ((List.range (2 * k + 2)).map fun n => (((Mt.known f).getD n 0 : Int) : Rat)) xs → Q (.ref S) H'
def spSets24 (K : PySem.W.Frag) : Sp := fun vs H Q _ => ∃ (k : Nat) (pa : Addr) (a : Rat), vs = [.int (2 * (k : Int) + 2), .ref pa] ∧ k < 8 ∧ Fq K H pa a ∧ Mt.Wg a ∧ ∀ S H' xs, Same H H' → H S = none → H' S = some (.lst xs) → Frs K H' ((List.range (2 * k + 2)).map fun n => Mt.tc a n) xs → Q (.ref S) H'
def spCnt24 (K : PySem.W.Frag) : Sp := fun vs H Q _ => ∃ (f k : Nat) (pa : Addr) (a : Rat), vs = [.int f, .int (2 * (k : Int) + 2), .ref pa] ∧ f < 6 ∧ k < 8 ∧ Fq K H pa a ∧ Mt.Wg a ∧ ∀ S H' xs, Same H H' → H S = none → H' S = some (.lst xs) → Frs K H' ((List.range (2 * k + 2)).map fun n => Mt.cF f a n) xs → Q (.ref S) H'
section
variable {P : Program} {w : World} {K : PySem.W.Frag} {mg : Str → Option Value} {base : Heap} {C_NOUGHT : Addr} {C_NoFraction : Addr} {C_NoMoments : Addr} {C_ONE : Addr} {C_TooFar : Addr}
abbrev s_shared_part : Stmt := top 8
theorem sc_shared_part : FnScope ["a", "b", "larger", "lesser", "rest"] ["a", "b"] (defScope s_shared_part) := ⟨rfl, rfl, rfl, by decide +kernel, rfl, by decide +kernel, by decide +kernel⟩
theorem ok_shared_part {f : Addr} {fd : FuncData} (F : Fun K "shared_part" "shared_part" s_shared_part f fd) (m : mg "shared_part" = some (.ref f)) (T : Tx w K mg C_NOUGHT C_NoFraction C_NoMoments C_ONE C_TooFar) : Callee P w K mg base 1 "shared_part" ["a", "b"] (spGcd) := by
  refine ⟨f, fd, ?_, m, F.kp, F.binds fun _ _ _ _ _ _ us hl => match us, hl with | [_, _], _ => rfl⟩
  refine F.okE sc_shared_part (fun vs H Q E h => ?_) (fun cdv A outer s H vs Q E hr h => ?_)
  · obtain ⟨_, _, rfl, _⟩ := h
    rfl
  · obtain ⟨a, b, rfl, hq⟩ := h
    refine ⟨_, (pss_cons (ps_set (i := 2) sc_shared_part.nd rfl (Or.inl rfl) (pe_callB call_abs (by rfl) T.b_abs (by decide +kernel) (pa_cons (pv 0) pa_nil))) (pss_cons (ps_set (i := 3) sc_shared_part.nd rfl (Or.inl rfl) (pe_callB call_abs (by rfl) T.b_abs (by decide +kernel) (pa_cons (pv 1) pa_nil))) (pss_cons (ps_wh PassesOwn.never (pt_cmpR op_ne (pv 3) pe_int (nomark _)) (pss_cons (ps_set (i := 4) sc_shared_part.nd rfl (Or.inl rfl) (pe_op op_mod (pv 2) (pv 3))) (pss_cons (ps_set (i := 2) sc_shared_part.nd rfl (Or.inl rfl) (pv 3)) (pss_one (ps_set (i := 3) sc_shared_part.nd rfl (Or.inl rfl) (pv 4)))))) (pss_one (ps_ret (pv 2)))))), ?_⟩
    walk_at "rd"
    refine ⟨fun σ H' => ∃ (x y : Int) (r : Option V), σ = [some (.int a), some (.int b), some (.int x), some (.int y), r] ∧ H' = H ∧ 0 ≤ x ∧ 0 ≤ y ∧ Int.gcd x y = Int.gcd a b, fun σ _ => match σ with | [_, _, _, some (.int y), _] => y.toNat | _ => 0, ⟨_, _, none, rfl, rfl, ?_, ?_, gcd_abs a b⟩, ?_⟩
    · split <;> omega
    · split <;> omega
    rintro σ H' ⟨x, y, r, rfl, rfl, hx, hy, hg⟩
    by_cases hy0 : y = 0
    · subst hy0
      walk_at "rd"
      rw [← hg, gcd_end hx] at hq
      exact hq
    · have h1 := Int.emod_nonneg x hy0
      have h2 := Int.emod_lt_of_pos x (show 0 < y by omega)
      have h3 := gcd_step hx (show 0 < y by omega)
      walk_at "rd"
      exact .inr ⟨hy0, by omega, ⟨y, x % y, ⟨rfl, rfl⟩, hy, h1, h3.trans hg⟩, by omega⟩
abbrev s_plus : Stmt := top 9
theorem sc_plus : FnScope ["a", "b", "part", "top", "rest"] ["a", "b"] (defScope s_plus) := ⟨rfl, rfl, rfl, by decide +kernel, rfl, by decide +kernel, by decide +kernel⟩
theorem ok_plus {f : Addr} {fd : FuncData} (F : Fun K "plus" "plus" s_plus f fd) (m : mg "plus" = some (.ref f)) (T : Tx w K mg C_NOUGHT C_NoFraction C_NoMoments C_ONE C_TooFar) (c_shared_part : Callee P w K mg base 1 "shared_part" ["a", "b"] (spGcd)) : Callee P w K mg base 2 "plus" ["a", "b"] (spBin K (fun a b => a + b)) := by
  refine ⟨f, fd, ?_, m, F.kp, F.binds fun _ _ _ _ _ _ us hl => match us, hl with | [_, _], _ => rfl⟩
  refine F.okE sc_plus (fun vs H Q E h => ?_) (fun cdv A outer s H vs Q E hr h => ?_)
  · obtain ⟨_, _, _, _, rfl, _⟩ := h
    rfl
  · obtain ⟨pa, pb, a, b, rfl, ha, hb, sa, sb, hq⟩ := h
    refine ⟨_, (pss_cons (ps_set (i := 2) sc_plus.nd rfl (Or.inl rfl) (pe_c c_shared_part (hr.mono (by decide)) np (pa_cons (pe_ix ix_fq (pv 0) pe_int (fun _ _ => rfl)) (pa_cons (pe_ix ix_fq (pv 1) pe_int (fun _ _ => rfl)) pa_nil)))) (pss_cons (ps_set (i := 3) sc_plus.nd rfl (Or.inl rfl) (pe_op op_add (pe_op op_mulB (pe_ix ix_fq (pv 0) pe_int (fun _ _ => rfl)) (pe_op op_fdivB (pe_ix ix_fq (pv 1) pe_int (fun _ _ => rfl)) (pv 2))) (pe_op op_mulB (pe_ix ix_fq (pv 1) pe_int (fun _ _ => rfl)) (pe_op op_fdivB (pe_ix ix_fq (pv 0) pe_int (fun _ _ => rfl)) (pv 2))))) (pss_cons (ps_set (i := 4) sc_plus.nd rfl (Or.inl rfl) (pe_c c_shared_part (hr.mono (by decide)) np (pa_cons (pv 3) (pa_cons (pv 2) pa_nil)))) (pss_one (ps_ret (pe_tup (pa_cons (pe_op op_fdivB (pv 3) (pv 4)) (pa_cons (pe_op op_mulB (pe_op op_fdivB (pe_ix ix_fq (pv 0) pe_int (fun _ _ => rfl)) (pv 2)) (pe_op op_fdivB (pe_ix ix_fq (pv 1) pe_int (fun _ _ => rfl)) (pv 4))) pa_nil)))))))), ?_⟩
    have h := Mt.plus_rat a b
    dsimp only at h hq
    refine tSeq_step fun N hN => ?_
    walk_at "rd"
    refine ⟨a, ha, b, hb, _, _, rfl, hN _ _ ?_⟩
    clear hN N
    generalize ((Int.gcd (a.den : Int) (b.den : Int) : Nat) : Int) = g at h ⊢
    refine tSeq_step fun N hN => ?_
    walk_at "rd"
    have p0 := h.2.1
    have pb := h.2.2.2.2.1
    have bg : Bd 4000 g := sb.b.le (by omega)
    have l1 := h.2.2.2.2.2.2.1
    have l2 := h.2.2.2.2.2.2.2.1
    refine ⟨a, ha, b, hb, bg.dv (by omega), sa.t.mu (sb.b.le l1), b, hb, a, ha, bg.dv (by omega), sb.t.mu (sa.b.le l2), hN _ _ ?_⟩
    clear hN N
    generalize a.num * (b.den : Int).fdiv g + b.num * (a.den : Int).fdiv g = t at h ⊢
    refine tSeq_step fun N hN => ?_
    walk_at "rd"
    refine ⟨_, _, rfl, hN _ _ ?_⟩
    clear hN N
    generalize ((Int.gcd t g : Nat) : Int) = r at h ⊢
    walk_at "rd"
    obtain ⟨⟨e1, e2⟩, _, r0, _, _, rp, _, _, l3⟩ := h
    have br : Bd 4000 r := bg.le (by omega)
    refine ⟨br.dv (by omega), a, ha, bg.dv (by omega), b, hb, br.dv (by omega), (sa.b.le l2).mu (sb.b.le l3), sz_le 2 (by decide), fun p hp => ?_⟩
    rw [e1, e2]
    exact hq p _ (same_upd hp) hp upd_same
abbrev s_minus : Stmt := top 10
theorem sc_minus : FnScope ["a", "b"] ["a", "b"] (defScope s_minus) := ⟨rfl, rfl, rfl, by decide +kernel, rfl, by decide +kernel, by decide +kernel⟩
theorem ok_minus {f : Addr} {fd : FuncData} (F : Fun K "minus" "minus" s_minus f fd) (m : mg "minus" = some (.ref f)) (T : Tx w K mg C_NOUGHT C_NoFraction C_NoMoments C_ONE C_TooFar) (c_plus : Callee P w K mg base 2 "plus" ["a", "b"] (spBin K (fun a b => a + b))) : Callee P w K mg base 3 "minus" ["a", "b"] (spBin K (fun a b => a - b)) := by
  refine ⟨f, fd, ?_, m, F.kp, F.binds fun _ _ _ _ _ _ us hl => match us, hl with | [_, _], _ => rfl⟩
  refine F.okE sc_minus (fun vs H Q E h => ?_) (fun cdv A outer s H vs Q E hr h => ?_)
  · obtain ⟨_, _, _, _, rfl, _⟩ := h
    rfl
  · obtain ⟨pa, pb, a, b, rfl, ha, hb, sa, sb, hq⟩ := h
    refine ⟨_, (pss_one (ps_ret (pe_c c_plus (hr.mono (by decide)) np (pa_cons (pv 0) (pa_cons (pe_tup (pa_cons (pe_un un_neg (pe_ix ix_fq (pv 1) pe_int (fun _ _ => rfl))) (pa_cons (pe_ix ix_fq (pv 1) pe_int (fun _ _ => rfl)) pa_nil))) pa_nil))))), ?_⟩
    dsimp only at hq
    walk_at "rd"
    refine ⟨b, hb, b, hb, sz_le 2 (by decide), fun p hp => ⟨pa, p, a, -b, rfl, ha.same (same_upd hp), Fq.of (by rw [frO, Rat.neg_num, Rat.neg_den]; exact upd_same), sa, sb.neg, fun r H' sm hr h => hq r H' ((same_upd hp).trans sm) ((same_upd hp).free hr) (by rw [Rat.sub_eq_add_neg]; exact h)⟩⟩
abbrev s_times : Stmt := top 11
theorem sc_times : FnScope ["a", "b", "first", "second"] ["a", "b"] (defScope s_times) := ⟨rfl, rfl, rfl, by decide +kernel, rfl, by decide +kernel, by decide +kernel⟩
theorem ok_times {f : Addr} {fd : FuncData} (F : Fun K "times" "times" s_times f fd) (m : mg "times" = some (.ref f)) (T : Tx w K mg C_NOUGHT C_NoFraction C_NoMoments C_ONE C_TooFar) (c_shared_part : Callee P w K mg base 1 "shared_part" ["a", "b"] (spGcd)) : Callee P w K mg base 2 "times" ["a", "b"] (spBin K (fun a b => a * b)) := by
  refine ⟨f, fd, ?_, m, F.kp, F.binds fun _ _ _ _ _ _ us hl => match us, hl with | [_, _], _ => rfl⟩
  refine F.okE sc_times (fun vs H Q E h => ?_) (fun cdv A outer s H vs Q E hr h => ?_)
  · obtain ⟨_, _, _, _, rfl, _⟩ := h
    rfl
  · obtain ⟨pa, pb, a, b, rfl, ha, hb, sa, sb, hq⟩ := h
    refine ⟨_, (pss_cons (ps_set (i := 2) sc_times.nd rfl (Or.inl rfl) (pe_c c_shared_part (hr.mono (by decide)) np (pa_cons (pe_ix ix_fq (pv 0) pe_int (fun _ _ => rfl)) (pa_cons (pe_ix ix_fq (pv 1) pe_int (fun _ _ => rfl)) pa_nil)))) (pss_cons (ps_set (i := 3) sc_times.nd rfl (Or.inl rfl) (pe_c c_shared_part (hr.mono (by decide)) np (pa_cons (pe_ix ix_fq (pv 1) pe_int (fun _ _ => rfl)) (pa_cons (pe_ix ix_fq (pv 0) pe_int (fun _ _ => rfl)) pa_nil)))) (pss_one (ps_ret (pe_tup (pa_cons (pe_op op_mulB (pe_op op_fdivB (pe_ix ix_fq (pv 0) pe_int (fun _ _ => rfl)) (pv 2)) (pe_op op_fdivB (pe_ix ix_fq (pv 1) pe_int (fun _ _ => rfl)) (pv 3))) (pa_cons (pe_op op_mulB (pe_op op_fdivB (pe_ix ix_fq (pv 0) pe_int (fun _ _ => rfl)) (pv 3)) (pe_op op_fdivB (pe_ix ix_fq (pv 1) pe_int (fun _ _ => rfl)) (pv 2))) pa_nil))))))), ?_⟩
    have h := Mt.times_rat a b
    dsimp only at h hq
    refine tSeq_step fun N hN => ?_
    walk_at "rd"
    refine ⟨a, ha, b, hb, _, _, rfl, hN _ _ ?_⟩
    clear hN N
    generalize ((Int.gcd a.num (b.den : Int) : Nat) : Int) = f at h ⊢
    refine tSeq_step fun N hN => ?_
    walk_at "rd"
    refine ⟨b, hb, a, ha, _, _, rfl, hN _ _ ?_⟩
    clear hN N
    generalize ((Int.gcd b.num (a.den : Int) : Nat) : Int) = s at h ⊢
    walk_at "rd"
    obtain ⟨⟨e1, e2⟩, f0, s0, fb, sc, l1, l2, l3, l4⟩ := h
    have bf : Bd 4000 f := sb.b.le (by omega)
    have bs : Bd 4000 s := sa.b.le (by omega)
    refine ⟨a, ha, bf.dv (by omega), b, hb, bs.dv (by omega), (sa.t.le l1).mu (sb.t.le l2), a, ha, bs.dv (by omega), b, hb, bf.dv (by omega), (sa.b.le l3).mu (sb.b.le l4), sz_le 2 (by decide), fun p hp => ?_⟩
    rw [e1, e2]
    exact hq p _ (same_upd hp) hp upd_same
abbrev s_over : Stmt := top 12
theorem sc_over : FnScope ["a", "b"] ["a", "b"] (defScope s_over) := ⟨rfl, rfl, rfl, by decide +kernel, rfl, by decide +kernel, by decide +kernel⟩
theorem ok_over {f : Addr} {fd : FuncData} (F : Fun K "over" "over" s_over f fd) (m : mg "over" = some (.ref f)) (T : Tx w K mg C_NOUGHT C_NoFraction C_NoMoments C_ONE C_TooFar) (c_times : Callee P w K mg base 2 "times" ["a", "b"] (spBin K (fun a b => a * b))) : Callee P w K mg base 3 "over" ["a", "b"] (spOver K C_NoFraction) := by
  refine ⟨f, fd, ?_, m, F.kp, F.binds fun _ _ _ _ _ _ us hl => match us, hl with | [_, _], _ => rfl⟩
  refine F.okX sc_over (fun vs H Q E h => ?_) (fun cdv A outer s H vs Q E hr h => ?_)
  · obtain ⟨_, _, _, _, rfl, _⟩ := h
    rfl
  · obtain ⟨pa, pb, a, b, rfl, ha, hb, sa, sb, h0, h1⟩ := h
    refine ⟨_, (pss_cons (ps_if (pt_cmpR op_eq (pe_ix ix_fq (pv 1) pe_int (fun _ _ => rfl)) pe_int (nomark _)) (pss_one (ps_raise raises_cx rfl rfl T.m_NoFraction T.x_NoFraction (pa_cons pe_str pa_nil))) pss_nil) (pss_cons (ps_if (pt_cmpR op_lt (pe_ix ix_fq (pv 1) pe_int (fun _ _ => rfl)) pe_int (nomark _)) (pss_one (ps_ret (pe_c c_times (hr.mono (by decide)) pass_cx (pa_cons (pv 0) (pa_cons (pe_tup (pa_cons (pe_un un_neg (pe_ix ix_fq (pv 1) pe_int (fun _ _ => rfl))) (pa_cons (pe_un un_neg (pe_ix ix_fq (pv 1) pe_int (fun _ _ => rfl))) pa_nil))) pa_nil))))) pss_nil) (pss_one (ps_ret (pe_c c_times (hr.mono (by decide)) pass_cx (pa_cons (pv 0) (pa_cons (pe_tup (pa_cons (pe_ix ix_fq (pv 1) pe_int (fun _ _ => rfl)) (pa_cons (pe_ix ix_fq (pv 1) pe_int (fun _ _ => rfl)) pa_nil))) pa_nil))))))), ?_⟩
    walk_at "rd"
    refine ⟨b, hb, ?_⟩
    split
    · rename_i z
      exact ⟨sz_le 1 (by decide), h0 z⟩
    rename_i z
    have nz := Mt.num_ne z
    refine ⟨b, hb, ?_⟩
    split
    · rename_i y
      have e := Mt.inv_neg y
      refine ⟨b, hb, b, hb, sz_le 2 (by decide), fun p hp => ⟨pa, p, a, b⁻¹, rfl, ha.same (same_upd hp), Fq.of ?_, sa, ⟨?_, ?_⟩, fun r H' sm hr h => h1 z r H' ((same_upd hp).trans sm) ((same_upd hp).free hr) (by rw [Rat.div_def]; exact h)⟩⟩
      · rw [frO, ← e.1, ← e.2]; exact upd_same
      · rw [← e.1]; exact sb.b.neg
      · rw [← e.2]; exact sb.t.neg
    · rename_i y
      have e := Mt.inv_pos (b := b) (by omega)
      refine ⟨b, hb, b, hb, sz_le 2 (by decide), fun p hp => ⟨pa, p, a, b⁻¹, rfl, ha.same (same_upd hp), Fq.of ?_, sa, ⟨?_, ?_⟩, fun r H' sm hr h => h1 z r H' ((same_upd hp).trans sm) ((same_upd hp).free hr) (by rw [Rat.div_def]; exact h)⟩⟩
      · rw [frO, ← e.1, ← e.2]; exact upd_same
      · rw [← e.1]; exact sb.b
      · rw [← e.2]; exact sb.t
abbrev s_poly_of : Stmt := top 14
theorem sc_poly_of : FnScope ["numbers", "many"] ["numbers"] (defScope s_poly_of) := ⟨rfl, rfl, rfl, by decide +kernel, rfl, by decide +kernel, by decide +kernel⟩
theorem ok_poly_of {f : Addr} {fd : FuncData} (F : Fun K "poly_of" "poly_of" s_poly_of f fd) (m : mg "poly_of" = some (.ref f)) (T : Tx w K mg C_NOUGHT C_NoFraction C_NoMoments C_ONE C_TooFar) : Callee P w K mg base 1 "poly_of" ["numbers"] (spPolyOf K) := by
  refine ⟨f, fd, ?_, m, F.kp, F.binds fun _ _ _ _ _ _ us hl => match us, hl with | [_], _ => rfl⟩
  refine F.okE sc_poly_of (fun vs H Q E h => ?_) (fun cdv A outer s H vs Q E hr h => ?_)
  · obtain ⟨_, _, _, rfl, _⟩ := h
    rfl
  · obtain ⟨a, xs, f, rfl, hs, hf, hl, hq⟩ := h
    refine ⟨_, (pss_cons (ps_set (i := 1) sc_poly_of.nd rfl (Or.inl rfl) (pe_callB call_len_seq (by rfl) T.b_len PySem.boot_len (pa_cons (pv 0) pa_nil))) (pss_cons (ps_wh PassesOwn.never (PW.pt (pw_and (pt_cmpR op_gt (pv 1) pe_int (nomark _)) (pw_and1 (pt_cmpR (op_eqD hr.units) (pe_ix ix_seq (pv 0) (pe_op op_sub (pv 1) pe_int) (fun _ _ => rfl)) (pe_glob (v := .ref C_NOUGHT) rfl T.m_NOUGHT rfl) (nomark _))))) (pss_one (ps_set (i := 1) sc_poly_of.nd rfl (Or.inl rfl) (pe_op op_sub (pv 1) pe_int)))) (pss_one (ps_ret (pe_callTy call_tuple_of (by rfl) T.b_tuple (by decide +kernel) (pa_cons (pe_slice (sl_list.or sl_tupA) (pv 0) po_none (po_some (pv 1))) pa_nil)))))), ?_⟩
    have hlen := hf.len
    refine tSeq_step fun N hN => ?_
    walk_at "rd"
    refine ⟨xs, hs, hN _ _ ?_⟩
    clear hN N
    refine tSeq_step fun N hN => ?_
    walk_at "rd"
    refine ⟨fun σ H' => ∃ k : Nat, σ = [some (.ref a), some (.int k)] ∧ H' = H ∧ k ≤ f.length ∧ ∀ i, k ≤ i → Mt.cf f i = 0, fun σ _ => match σ with | [_, some (.int y)] => y.toNat | _ => 0, ⟨xs.length, rfl, rfl, by omega, fun i hi => Mt.cf_ge (by omega)⟩, ?_⟩
    rintro σ H' ⟨k, rfl, rfl, hk, hz⟩
    have fin : (k = 0 ∨ Mt.cf f (k - 1) ≠ 0) → N [some (.ref a), some (.int k)] H' := fun h1 => by
      have e := Mt.take_trim hk hz h1
      have ef : Frs K H' (Mt.trim f) (cutV xs none (some (k : Int))) := by rw [cutV_to _ _ (by omega), ← e]; exact hf.take k
      refine hN _ _ ?_
      walk_at "rd"
      rcases hs with h | h
      · exact .inl ⟨a, xs, rfl, h, fun p hp => ⟨p, rfl, _, .inl ⟨SqL.of upd_same, fun l hl => hq l _ ((same_upd hp).trans (same_upd hl)) ⟨_, SqT.of upd_same, ef.same ((same_upd hp).trans (same_upd hl))⟩⟩⟩⟩
      · exact .inr ⟨a, xs, rfl, h, fun p H1 s1 h1 => ⟨p, rfl, _, .inr ⟨h1, hq p H1 s1 ⟨_, h1, ef.same s1⟩⟩⟩⟩
    clear hN
    by_cases k0 : k = 0
    · subst k0
      walk_at "rd"
      exact fin (.inl rfl)
    obtain ⟨r, e, fr⟩ := hf.at (j := k - 1) (by omega)
    have ek : ((k : Int) - 1) = ((k - 1 : Nat) : Int) := by omega
    have at1 := atI_nat e
    rw [← ek] at at1
    have k1 : (0 : Int) < k := by omega
    walk_at "rd"
    rw [if_pos (by omega)]
    have both : rEqD K false (.ref r) (.ref C_NOUGHT) H' fun x H'_1 => x = V.bl false ∧ N [some (V.ref a), some (V.int ↑k)] H'_1 ∨ x = V.bl true ∧ (∃ k_1 : Nat, (k : Int) - 1 = ↑k_1 ∧ H'_1 = H' ∧ k_1 ≤ f.length ∧ ∀ (i : Nat), k_1 ≤ i → Mt.cf f i = 0) ∧ k - 1 < k := by
      refine fr_cmp (rep_fr fr) (rep_fr (T.nought H')) ?_
      by_cases z : Mt.cf f (k - 1) = 0
      · refine .inr ⟨by simp [z], ⟨k - 1, ek, rfl, by omega, fun i hi => ?_⟩, by omega⟩
        by_cases e2 : i = k - 1
        · rw [e2]; exact z
        · exact hz i (by omega)
      · exact .inl ⟨by simp [z], fin (.inr z)⟩
    rcases hs with h | h
    · exact .inl ⟨a, xs, _, _, rfl, rfl, h, at1, both⟩
    · exact .inr (.inl ⟨a, xs, _, _, rfl, rfl, h, at1, both⟩)
abbrev s_number_at : Stmt := top 15
theorem sc_number_at : FnScope ["f", "power"] ["f", "power"] (defScope s_number_at) := ⟨rfl, rfl, rfl, by decide +kernel, rfl, by decide +kernel, by decide +kernel⟩
theorem ok_number_at {f : Addr} {fd : FuncData} (F : Fun K "number_at" "number_at" s_number_at f fd) (m : mg "number_at" = some (.ref f)) (T : Tx w K mg C_NOUGHT C_NoFraction C_NoMoments C_ONE C_TooFar) : Callee P w K mg base 1 "number_at" ["f", "power"] (spNumAt K) := by
  refine ⟨f, fd, ?_, m, F.kp, F.binds fun _ _ _ _ _ _ us hl => match us, hl with | [_, _], _ => rfl⟩
  refine F.okE sc_number_at (fun vs H Q E h => ?_) (fun cdv A outer s H vs Q E hr h => ?_)
  · obtain ⟨_, _, _, rfl, _⟩ := h
    rfl
  · obtain ⟨p, f, n, rfl, hp, hq⟩ := h
    refine ⟨_, (pss_one (ps_ret (pe_ifExp (pt_cmpR op_lt (pv 1) (pe_callB call_len_seq (by rfl) T.b_len PySem.boot_len (pa_cons (pv 0) pa_nil)) (nomark _)) (pe_ix ix_tup (pv 0) (pv 1) (fun _ _ => rfl)) (pe_glob (v := .ref C_NOUGHT) rfl T.m_NOUGHT rfl)))), ?_⟩
    obtain ⟨xs, hx, hf⟩ := hp
    have hlen := hf.len
    walk_at "rd"
    refine ⟨xs, .inr hx, ?_⟩
    split
    · rename_i h
      obtain ⟨r, e, fr⟩ := hf.at (j := n) (by omega)
      exact ⟨xs, hx, _, atI_nat e, hq r fr⟩
    · rename_i h
      refine hq _ ?_
      rw [Mt.cf_ge (by omega)]
      exact T.nought H
abbrev s_poly_plus : Stmt := top 16
theorem sc_poly_plus : FnScope ["f", "g"] ["f", "g"] (defScope s_poly_plus) := ⟨rfl, rfl, rfl, by decide +kernel, rfl, by decide +kernel, by decide +kernel⟩
theorem ok_poly_plus {f : Addr} {fd : FuncData} (F : Fun K "poly_plus" "poly_plus" s_poly_plus f fd) (m : mg "poly_plus" = some (.ref f)) (T : Tx w K mg C_NOUGHT C_NoFraction C_NoMoments C_ONE C_TooFar) (c_number_at : Callee P w K mg base 1 "number_at" ["f", "power"] (spNumAt K)) (c_plus : Callee P w K mg base 2 "plus" ["a", "b"] (spBin K (fun a b => a + b))) (c_poly_of : Callee P w K mg base 1 "poly_of" ["numbers"] (spPolyOf K)) : Callee P w K mg base 3 "poly_plus" ["f", "g"] (spPP K Mt.padd) := by
  refine ⟨f, fd, ?_, m, F.kp, F.binds fun _ _ _ _ _ _ us hl => match us, hl with | [_, _], _ => rfl⟩
  refine F.okE sc_poly_plus (fun vs H Q E h => ?_) (fun cdv A outer s H vs Q E hr h => ?_)
  · obtain ⟨_, _, _, _, rfl, _⟩ := h
    rfl
  · obtain ⟨pf, pg, f, g, rfl, hf, hg, lf, lg, sf, sg, hq⟩ := h
    refine ⟨_, (pss_one (ps_ret (pe_c c_poly_of (hr.mono (by decide)) np (pa_cons (PCo.pe (coR T.b_range (pe_callB (call_max2 rfl) (by rfl) T.b_max (by decide +kernel) (pa_cons (pe_callB call_len_seq (by rfl) T.b_len PySem.boot_len (pa_cons (pv 0) pa_nil)) (pa_cons (pe_callB call_len_seq (by rfl) T.b_len PySem.boot_len (pa_cons (pv 1) pa_nil)) pa_nil))) (fun _ hpi => pe_comp2 ["n"] "g" 1 "f" 0 rfl hpi (fun _ _ _ _ _ => (pg_name (i := 0) (show List.Nodup [("n" : Str), ("g" : Str), ("f" : Str)] by decide +kernel) rfl (Or.inl rfl) (Or.inr rfl)).mo) (fun _ _ _ _ _ => PE.mo (pe_c c_plus (hr.mono (by decide)) np (pa_cons (pe_c c_number_at (hr.mono (by decide)) np (pa_cons (pv 2) (pa_cons (pv 0) pa_nil))) (pa_cons (pe_c c_number_at (hr.mono (by decide)) np (pa_cons (pv 1) (pa_cons (pv 0) pa_nil))) pa_nil)))) rfl rfl rfl rfl rfl rfl rfl rfl rfl))) pa_nil)))), ?_⟩
    obtain ⟨xs, hx, fx⟩ := id hf
    obtain ⟨ys, hy, fy⟩ := id hg
    have l1 := fx.len
    have l2 := fy.len
    walk_at "rd"
    refine ⟨xs, .inr hx, ys, .inr hy, ?_⟩
    have e : (if (xs.length : Int) < ys.length then (ys.length : Int) else xs.length).toNat = max f.length g.length := by split <;> omega
    refine ⟨_, _, ⟨rfl, rfl⟩, by split <;> omega, by split <;> omega, ?_⟩
    rw [e]
    refine CO.frs (K := K) (fun n => Mt.cf f n + Mt.cf g n) (by omega) (fun _ _ => trivial) (fun i H' x R hi sm hx' k => ?_) fun D H' zs sm nD hD hfr => ?_
    · subst hx'
      walk_at "rd"
      exact ⟨pf, f, i, rfl, hf.same sm, fun r1 h1 => ⟨pg, g, i, rfl, hg.same sm, fun r2 h2 => ⟨r1, r2, _, _, rfl, h1, h2, (sf i).mono (by decide), (sg i).mono (by decide), fun r H3 s3 _ h3 => k r H3 s3 (Fq.of h3)⟩⟩⟩
    · exact ⟨D, zs, _, rfl, .inl (SqL.of hD), hfr, by simp; omega, fun p H2 s2 h2 => hq p H2 (sm.trans s2) h2⟩
abbrev s_poly_scaled : Stmt := top 19
theorem sc_poly_scaled : FnScope ["f", "a"] ["f", "a"] (defScope s_poly_scaled) := ⟨rfl, rfl, rfl, by decide +kernel, rfl, by decide +kernel, by decide +kernel⟩
theorem ok_poly_scaled {f : Addr} {fd : FuncData} (F : Fun K "poly_scaled" "poly_scaled" s_poly_scaled f fd) (m : mg "poly_scaled" = some (.ref f)) (T : Tx w K mg C_NOUGHT C_NoFraction C_NoMoments C_ONE C_TooFar) (c_poly_of : Callee P w K mg base 1 "poly_of" ["numbers"] (spPolyOf K)) (c_times : Callee P w K mg base 2 "times" ["a", "b"] (spBin K (fun a b => a * b))) : Callee P w K mg base 3 "poly_scaled" ["f", "a"] (spScaled K) := by
  refine ⟨f, fd, ?_, m, F.kp, F.binds fun _ _ _ _ _ _ us hl => match us, hl with | [_, _], _ => rfl⟩
  refine F.okE sc_poly_scaled (fun vs H Q E h => ?_) (fun cdv A outer s H vs Q E hr h => ?_)
  · obtain ⟨_, _, _, _, rfl, _⟩ := h
    rfl
  · obtain ⟨pf, pa, f, a, rfl, hf, ha, lf, sf, sa, hq⟩ := h
    refine ⟨_, (pss_one (ps_ret (pe_c c_poly_of (hr.mono (by decide)) np (pa_cons (PCo.pe (coT (pv 0) (fun _ hpi => pe_comp1 ["number"] "a" 1 rfl hpi (fun _ _ _ _ _ => (pg_name (i := 0) (show List.Nodup [("number" : Str), ("a" : Str)] by decide +kernel) rfl (Or.inl rfl) (Or.inr rfl)).mo) (fun _ _ _ _ _ => PE.mo (pe_c c_times (hr.mono (by decide)) np (pa_cons (pv 0) (pa_cons (pv 1) pa_nil)))) rfl rfl rfl rfl rfl))) pa_nil)))), ?_⟩
    obtain ⟨xs, hx, fx⟩ := id hf
    have l1 := fx.len
    walk_at "rd"
    refine ⟨xs, hx, CO.frs (K := K) (fun i => Mt.cf f i * a) (by omega) (fun H' s => s.seqT hx) (fun i H' x R hi sm hx' k => ?_) fun D H' ys sm nD hD hfr => ?_⟩
    · obtain ⟨p, e, fq⟩ := fx.at (j := i) (by omega)
      cases e.symm.trans hx'
      walk_at "rd"
      exact ⟨p, pa, _, a, rfl, fq.same sm, ha.same sm, sf i, sa, fun r H3 s3 _ h3 => k r H3 s3 (Fq.of h3)⟩
    · refine ⟨D, ys, _, rfl, .inl (SqL.of hD), hfr, by simp; omega, fun p H2 s2 h2 => hq p H2 (sm.trans s2) ?_⟩
      rw [← l1, Mt.map_cf (fun x => x * a)] at h2
      exact h2
abbrev s_poly_minus : Stmt := top 17
theorem sc_poly_minus : FnScope ["f", "g"] ["f", "g"] (defScope s_poly_minus) := ⟨rfl, rfl, rfl, by decide +kernel, rfl, by decide +kernel, by decide +kernel⟩
theorem ok_poly_minus {f : Addr} {fd : FuncData} (F : Fun K "poly_minus" "poly_minus" s_poly_minus f fd) (m : mg "poly_minus" = some (.ref f)) (T : Tx w K mg C_NOUGHT C_NoFraction C_NoMoments C_ONE C_TooFar) (c_poly_plus : Callee P w K mg base 3 "poly_plus" ["f", "g"] (spPP K Mt.padd)) (c_poly_scaled : Callee P w K mg base 3 "poly_scaled" ["f", "a"] (spScaled K)) : Callee P w K mg base 4 "poly_minus" ["f", "g"] (spPP K Mt.psub) := by
  refine ⟨f, fd, ?_, m, F.kp, F.binds fun _ _ _ _ _ _ us hl => match us, hl with | [_, _], _ => rfl⟩
  refine F.okE sc_poly_minus (fun vs H Q E h => ?_) (fun cdv A outer s H vs Q E hr h => ?_)
  · obtain ⟨_, _, _, _, rfl, _⟩ := h
    rfl
  · obtain ⟨pf, pg, f, g, rfl, hf, hg, lf, lg, sf, sg, hq⟩ := h
    refine ⟨_, (pss_one (ps_ret (pe_c c_poly_plus (hr.mono (by decide)) np (pa_cons (pv 0) (pa_cons (pe_c c_poly_scaled (hr.mono (by decide)) np (pa_cons (pv 1) (pa_cons (pe_tup (pa_cons (pe_un un_neg pe_int) (pa_cons pe_int pa_nil))) pa_nil))) pa_nil))))), ?_⟩
    walk_at "rd"
    refine ⟨sz_le 2 (by decide), fun p hp => ⟨pg, p, g, -1, rfl, hg.same (same_upd hp), Fq.of upd_same, lg, fun n => (sg n).mono (by decide), ⟨by show (_ : Nat) < _; decide, by show (_ : Nat) < _; decide⟩, fun r H1 s1 h1 => ?_⟩⟩
    have s01 := (same_upd hp).trans s1
    refine ⟨pf, r, f, _, rfl, hf.same s01, h1, lf, Nat.le_trans (Mt.trim_len _) (by simpa using lg), sf, fun n => ?_, fun r2 H2 s2 h2 => hq r2 H2 (s01.trans s2) h2⟩
    rw [Mt.cf_pscale, show Mt.cf g n * -1 = -Mt.cf g n by grind]
    exact (sg n).neg
abbrev s_poly_times : Stmt := top 18
theorem sc_poly_times : FnScope ["f", "g", "sums", "i", "a", "j", "b"] ["f", "g"] (defScope s_poly_times) := ⟨rfl, rfl, rfl, by decide +kernel, rfl, by decide +kernel, by decide +kernel⟩
theorem ok_poly_times {f : Addr} {fd : FuncData} (F : Fun K "poly_times" "poly_times" s_poly_times f fd) (m : mg "poly_times" = some (.ref f)) (T : Tx w K mg C_NOUGHT C_NoFraction C_NoMoments C_ONE C_TooFar) (c_plus : Callee P w K mg base 2 "plus" ["a", "b"] (spBin K (fun a b => a + b))) (c_poly_of : Callee P w K mg base 1 "poly_of" ["numbers"] (spPolyOf K)) (c_times : Callee P w K mg base 2 "times" ["a", "b"] (spBin K (fun a b => a * b))) : Callee P w K mg base 3 "poly_times" ["f", "g"] (spMulP K) := by
  refine ⟨f, fd, ?_, m, F.kp, F.binds fun _ _ _ _ _ _ us hl => match us, hl with | [_, _], _ => rfl⟩
  refine F.okE sc_poly_times (fun vs H Q E h => ?_) (fun cdv A outer s H vs Q E hr h => ?_)
  · obtain ⟨_, _, _, _, _, _, rfl, _⟩ := h
    rfl
  · obtain ⟨pf, pg, f, g, b, c, rfl, hf, hg, lf, lg, bf, bg, hbc, hq⟩ := h
    refine ⟨_, (pss_cons (PCo.ps (i := 2) (coR T.b_range (pe_op op_add (pe_callB call_len_seq (by rfl) T.b_len PySem.boot_len (pa_cons (pv 0) pa_nil)) (pe_callB call_len_seq (by rfl) T.b_len PySem.boot_len (pa_cons (pv 1) pa_nil))) (fun _ hpi => pe_comp0 ["place"] rfl hpi (fun _ _ _ _ _ => (pg_name (i := 0) (show List.Nodup [("place" : Str)] by decide +kernel) rfl (Or.inl rfl) (Or.inr rfl)).mo) (fun _ _ _ _ _ => PE.mo (pe_glob (v := .ref C_NOUGHT) rfl T.m_NOUGHT rfl)))) sc_poly_times.nd rfl (Or.inl rfl)) (pss_cons (ps_forE rfl PassesOwn.never T.b_enumerate (pv 0) (pg_tup rfl (pgs_cons (pg_name (i := 3) sc_poly_times.nd rfl (Or.inl rfl)) (pgs_cons (pg_name (i := 4) sc_poly_times.nd rfl (Or.inl rfl)) pgs_nil))) (pss_one (ps_forE rfl PassesOwn.never T.b_enumerate (pv 1) (pg_tup rfl (pgs_cons (pg_name (i := 5) sc_poly_times.nd rfl (Or.inl rfl)) (pgs_cons (pg_name (i := 6) sc_poly_times.nd rfl (Or.inl rfl)) pgs_nil))) (pss_one (ps_asg (pe_c c_plus (hr.mono (by decide)) np (pa_cons (pe_ix ix_list (pv 2) (pe_op op_add (pv 3) (pv 5)) (fun _ _ => rfl)) (pa_cons (pe_c c_times (hr.mono (by decide)) np (pa_cons (pv 4) (pa_cons (pv 6) pa_nil))) pa_nil))) (pg_sub (pv 2) (pe_op op_add (pv 3) (pv 5)) set_list)))))) (pss_one (ps_ret (pe_c c_poly_of (hr.mono (by decide)) np (pa_cons (pv 2) pa_nil)))))), ?_⟩
    obtain ⟨xs, hx, fx⟩ := id hf
    obtain ⟨ys, hy, fy⟩ := id hg
    have l1 := fx.len
    have l2 := fy.len
    refine tSeq_step fun N hN => ?_
    walk_at "rd"
    have en : (((xs.length : Int) + (ys.length : Int)).toNat) = f.length + g.length := by omega
    refine ⟨xs, .inr hx, ys, .inr hy, by omega, by omega, ?_⟩
    rw [en]
    refine CO.frs (K := K) (fun _ => 0) (by omega) (fun _ _ => trivial) (fun i H' x R hi sm hx' k => k _ _ (Same.refl _) (T.nought _)) fun D H1 zs s1 nD hD hfr => hN _ _ ?_
    clear hN N
    have e0 : (List.range (f.length + g.length)).map (fun _ => (0 : Rat)) = Mt.prodIn f g 0 := by rw [Mt.prodIn_zero, List.map_const', List.length_range]
    rw [e0] at hfr
    refine tSeq_step fun N hN => ?_
    walk_at "rd"
    refine ⟨xs, s1.seqT hx, fun i σ H' => ∃ r3 r4 r5 r6 zs, σ = [some (.ref pf), some (.ref pg), some (.ref D), r3, r4, r5, r6] ∧ Same H H' ∧ H' D = some (.lst zs) ∧ Frs K H' (Mt.prodIn f g i) zs, ⟨none, none, none, none, zs, rfl, s1, hD, hfr⟩, ?_, ?_, ?_⟩
    · rintro i σ H' _ ⟨_, _, _, _, _, _, sm, _⟩
      exact sm.seqT hx
    · rintro i x σ H' p hxi ⟨r3, r4, r5, r6, zs, rfl, sm, hd, hz⟩ hp
      have hi : i < f.length := by rw [l1]; exact (List.getElem?_eq_some_iff.mp hxi).1
      obtain ⟨ra, ea, fa⟩ := fx.at hi
      cases ea.symm.trans hxi
      have w1 := same_upd (o := .tup [.int i, .ref ra]) hp
      have sm1 := sm.trans w1
      have hz1 := hz.same w1
      have hd1 := w1 _ _ hd
      have et : SqT K (upd H' p (.tup [.int i, .ref ra])) p [.int i, .ref ra] := SqT.of upd_same
      generalize upd H' p (.tup [.int i, .ref ra]) = G1 at sm1 hz1 hd1 et ⊢
      walk_at "rd"
      refine ⟨_, et, rfl, _, _, rfl, _, _, rfl, rfl, ys, sm1.seqT hy, ?_⟩
      refine ⟨fun j σ H' => ∃ r5 r6 zs, σ = [some (.ref pf), some (.ref pg), some (.ref D), some (.int i), some (.ref ra), r5, r6] ∧ Same H H' ∧ H' D = some (.lst zs) ∧ Frs K H' (Mt.rowIn (Mt.prodIn f g i) i (Mt.cf f i) g j) zs, ⟨r5, r6, zs, rfl, sm1, hd1, hz1⟩, ?_, ?_, ?_⟩
      · rintro j σ H' _ ⟨_, _, _, _, sm, _⟩
        exact sm.seqT hy
      · rintro j y σ H2 p2 hyj ⟨r5, r6, zs2, rfl, sm2, hd2, hz2⟩ hp2
        have hj : j < g.length := by rw [l2]; exact (List.getElem?_eq_some_iff.mp hyj).1
        obtain ⟨rb, eb, fb⟩ := fy.at hj
        cases eb.symm.trans hyj
        have w2 := same_upd (o := .tup [.int j, .ref rb]) hp2
        replace sm2 := sm2.trans w2
        replace hz2 := hz2.same w2
        replace hd2 := w2 _ _ hd2
        have et2 : SqT K (upd H2 p2 (.tup [.int j, .ref rb])) p2 [.int j, .ref rb] := SqT.of upd_same
        generalize upd H2 p2 (.tup [.int j, .ref rb]) = G2 at sm2 hz2 hd2 et2 ⊢
        have hk : i + j < (Mt.rowIn (Mt.prodIn f g i) i (Mt.cf f i) g j).length := by rw [Mt.rowIn_len, Mt.prodIn_len]; omega
        obtain ⟨rs, es, fs⟩ := hz2.at hk
        have lz := hz2.len
        have at1 : atI zs2 ((i : Int) + (j : Int)) = some (.ref rs) := by
          have := atI_nat es
          rwa [show ((i + j : Nat) : Int) = (i : Int) + (j : Int) by omega] at this
        have ix1 : ixN zs2.length ((i : Int) + (j : Int)) = some (i + j) := by
          have := ixN_nat (n := zs2.length) (k := i + j) (by omega)
          rwa [show ((i + j : Nat) : Int) = (i : Int) + (j : Int) by omega] at this
        have s1 := Ln.sz bf i
        have s2 := Ln.sz bg j
        have s3 := Ln.sz (bf.rowB bg lf hi (j := j) (by omega)) (i + j)
        walk_at "rd"
        refine ⟨_, et2, rfl, _, _, rfl, _, _, rfl, rfl, ?_⟩
        walk_at "rd"
        refine ⟨zs2, SqL.of hd2, _, at1, ra, rb, _, _, rfl, fa.same sm2, fb.same sm2, s1.mono (by omega), s2.mono (by omega), fun r1 G3 t1 _ q1 => ⟨rs, r1, _, _, rfl, fs.same t1, Fq.of q1, s3.mono (by omega), (s1.mul s2).mono (by omega), fun r2 G4 t2 _ q2 => ?_⟩⟩
        have t12 := t1.trans t2
        have hd4 := t12 _ _ hd2
        refine ⟨zs2, hd4, _, ix1, (sm2.trans t12).updL nD, _, upd_same, ?_⟩
        rw [Mt.rowIn_succ]
        exact Frs.set (i + j) (Frs.updL hd4 (hz2.same t12)) (SqT.updL hd4 (Fq.of q2))
      · rintro σ H2 ⟨r5, r6, zs2, rfl, sm2, hd2, hz2⟩
        rw [← l2, ← Mt.prodIn_succ] at hz2
        exact ⟨⟨_, _, _, _, rfl⟩, sm2, _, hd2, hz2⟩
    · rintro σ H' ⟨r3, r4, r5, r6, zs, rfl, sm, hd, hz⟩
      refine hN _ _ ?_
      clear hN N
      have lz := hz.len
      rw [Mt.prodIn_len] at lz
      walk_at "rd"
      refine ⟨D, zs, _, rfl, .inl (SqL.of hd), hz, by rw [Mt.prodIn_len]; omega, fun p H2 s2 h2 => hq p H2 (sm.trans s2) ?_⟩
      rw [← l1] at h2
      exact h2
abbrev s_degree_of : Stmt := top 20
theorem sc_degree_of : FnScope ["f"] ["f"] (defScope s_degree_of) := ⟨rfl, rfl, rfl, by decide +kernel, rfl, by decide +kernel, by decide +kernel⟩
theorem ok_degree_of {f : Addr} {fd : FuncData} (F : Fun K "degree_of" "degree_of" s_degree_of f fd) (m : mg "degree_of" = some (.ref f)) (T : Tx w K mg C_NOUGHT C_NoFraction C_NoMoments C_ONE C_TooFar) : Callee P w K mg base 1 "degree_of" ["f"] (spDeg K) := by
  refine ⟨f, fd, ?_, m, F.kp, F.binds fun _ _ _ _ _ _ us hl => match us, hl with | [_], _ => rfl⟩
  refine F.okE sc_degree_of (fun vs H Q E h => ?_) (fun cdv A outer s H vs Q E hr h => ?_)
  · obtain ⟨_, _, rfl, _⟩ := h
    rfl
  · obtain ⟨p, f, rfl, hp, hq⟩ := h
    refine ⟨_, (pss_one (ps_ret (pe_op op_sub (pe_callB call_len_seq (by rfl) T.b_len PySem.boot_len (pa_cons (pv 0) pa_nil)) pe_int))), ?_⟩
    obtain ⟨xs, hx, fx⟩ := hp
    have l1 := fx.len
    walk_at "rd"
    refine ⟨xs, .inr hx, ?_⟩
    rw [← l1]
    exact hq
abbrev s_one_further : Stmt := top 22
theorem sc_one_further : FnScope ["level", "now", "down", "before"] ["level", "now", "down", "before"] (defScope s_one_further) := ⟨rfl, rfl, rfl, by decide +kernel, rfl, by decide +kernel, by decide +kernel⟩
theorem ok_one_further {f : Addr} {fd : FuncData} (F : Fun K "one_further" "one_further" s_one_further f fd) (m : mg "one_further" = some (.ref f)) (T : Tx w K mg C_NOUGHT C_NoFraction C_NoMoments C_ONE C_TooFar) (c_minus : Callee P w K mg base 3 "minus" ["a", "b"] (spBin K (fun a b => a - b))) (c_poly_minus : Callee P w K mg base 4 "poly_minus" ["f", "g"] (spPP K Mt.psub)) (c_poly_of : Callee P w K mg base 1 "poly_of" ["numbers"] (spPolyOf K)) (c_poly_scaled : Callee P w K mg base 3 "poly_scaled" ["f", "a"] (spScaled K)) (c_poly_times : Callee P w K mg base 3 "poly_times" ["f", "g"] (spMulP K)) : Callee P w K mg base 5 "one_further" ["level", "now", "down", "before"] (spFurther K) := by
  refine ⟨f, fd, ?_, m, F.kp, F.binds fun _ _ _ _ _ _ us hl => match us, hl with | [_, _, _, _], _ => rfl⟩
  refine F.okE sc_one_further (fun vs H Q E h => ?_) (fun cdv A outer s H vs Q E hr h => ?_)
  · obtain ⟨_, _, _, _, _, _, _, _, rfl, _⟩ := h
    rfl
  · obtain ⟨pl, pn, pd, pb, l, d, f, g, rfl, ql, hn, qd, hb, wl, wd, lf, lg, bf, bg, hq⟩ := h
    refine ⟨_, (pss_one (ps_ret (pe_c c_poly_minus (hr.mono (by decide)) np (pa_cons (pe_c c_poly_times (hr.mono (by decide)) np (pa_cons (pe_c c_poly_of (hr.mono (by decide)) np (pa_cons (pe_lst (pa_cons (pe_c c_minus (hr.mono (by decide)) np (pa_cons (pe_glob (v := .ref C_NOUGHT) rfl T.m_NOUGHT rfl) (pa_cons (pv 0) pa_nil))) (pa_cons (pe_glob (v := .ref C_ONE) rfl T.m_ONE rfl) pa_nil))) pa_nil)) (pa_cons (pv 1) pa_nil))) (pa_cons (pe_c c_poly_scaled (hr.mono (by decide)) np (pa_cons (pv 3) (pa_cons (pv 2) pa_nil))) pa_nil))))), ?_⟩
    have m1 := len_pmul (Mt.x1 l) f
    have m3 : (Mt.x1 l).length ≤ 2 := Mt.trim_len _
    have b1 := (Mt.gp_x1 wl).ln (by decide)
    walk_at "rd"
    refine ⟨_, pl, 0, l, rfl, T.nought H, ql, Sz.zero (by decide), (wg_sz wl).mono (by decide), fun r1 H1 s1 n1 h1 => ⟨sz_le 2 (by decide), fun lst nl => ?_⟩⟩
    have u := same_upd (o := .lst [.ref r1, .ref C_ONE]) nl
    refine ⟨lst, _, [0 - l, 1], rfl, .inl (SqL.of upd_same), Frs.cons (Fq.of (u _ _ h1)) (Frs.cons (T.one _) Frs.nil), by simp, fun p2 H2 s2 h2 => ?_⟩
    rw [show (0 : Rat) - l = -l by grind] at h2
    replace h2 : Pl K H2 p2 (Mt.x1 l) := h2
    have v2 := (s1.trans u).trans s2
    refine ⟨p2, pn, _, f, 320, 320, rfl, h2, hn.same v2, by omega, by omega, b1, bf, by decide, fun r3 H3 s3 h3 => ?_⟩
    have v3 := v2.trans s3
    refine ⟨pb, pd, g, d, rfl, hb.same v3, qd.same v3, by omega, fun n => (Ln.sz bg n).mono (by decide), (wg_sz wd).mono (by decide), fun r4 H4 s4 h4 => ?_⟩
    refine ⟨r3, r4, _, _, rfl, h3.same s4, h4, by omega, Nat.le_trans (Mt.trim_len _) (by simp; omega), fun n => (Ln.sz (b1.pmulB bf (by omega)) n).mono (by decide), fun n => ?_, fun r5 H5 s5 h5 => hq r5 H5 ((v3.trans s4).trans s5) h5⟩
    rw [Mt.cf_pscale]
    exact ((Ln.sz bg n).mul (wg_sz wd)).mono (by decide)
abbrev s_ruled : Stmt := top 23
theorem sc_ruled : FnScope ["moments", "poly", "total", "n", "number"] ["moments", "poly"] (defScope s_ruled) := ⟨rfl, rfl, rfl, by decide +kernel, rfl, by decide +kernel, by decide +kernel⟩
theorem ok_ruled {f : Addr} {fd : FuncData} (F : Fun K "ruled" "ruled" s_ruled f fd) (m : mg "ruled" = some (.ref f)) (T : Tx w K mg C_NOUGHT C_NoFraction C_NoMoments C_ONE C_TooFar) (c_degree_of : Callee P w K mg base 1 "degree_of" ["f"] (spDeg K)) (c_plus : Callee P w K mg base 2 "plus" ["a", "b"] (spBin K (fun a b => a + b))) (c_times : Callee P w K mg base 2 "times" ["a", "b"] (spBin K (fun a b => a * b))) : Callee P w K mg base 3 "ruled" ["moments", "poly"] (spRuledG K C_TooFar) := by
  refine ⟨f, fd, ?_, m, F.kp, F.binds fun _ _ _ _ _ _ us hl => match us, hl with | [_, _], _ => rfl⟩
  refine F.okX sc_ruled (fun vs H Q E h => ?_) (fun cdv A outer s H vs Q E hr h => ?_)
  · obtain ⟨_, _, _, _, _, rfl, _⟩ := h
    rfl
  · obtain ⟨m, p, xs, ms, f, rfl, hm, fm, hp, lf, wm, rf, rs, h0, h1⟩ := h
    refine ⟨_, (pss_cons (ps_if (pt_cmpR op_ge (pe_c c_degree_of (hr.mono (by decide)) pass_cx (pa_cons (pv 1) pa_nil)) (pe_callB call_len_seq (by rfl) T.b_len PySem.boot_len (pa_cons (pv 0) pa_nil)) (nomark _)) (pss_one (ps_raise raises_cx rfl rfl T.m_TooFar T.x_TooFar (pa_cons pe_str pa_nil))) pss_nil) (pss_cons (ps_set (i := 2) sc_ruled.nd rfl (Or.inl rfl) (pe_glob (v := .ref C_NOUGHT) rfl T.m_NOUGHT rfl)) (pss_cons (ps_forE rfl PassesOwn.leaving T.b_enumerate (pv 1) (pg_tup rfl (pgs_cons (pg_name (i := 3) sc_ruled.nd rfl (Or.inl rfl)) (pgs_cons (pg_name (i := 4) sc_ruled.nd rfl (Or.inl rfl)) pgs_nil))) (pss_one (ps_set (i := 2) sc_ruled.nd rfl (Or.inl rfl) (pe_c c_plus (hr.mono (by decide)) pass_cx (pa_cons (pv 2) (pa_cons (pe_c c_times (hr.mono (by decide)) pass_cx (pa_cons (pv 4) (pa_cons (pe_ix ix_list (pv 0) (pv 3) (fun _ _ => rfl)) pa_nil))) pa_nil)))))) (pss_one (ps_ret (pv 2)))))), ?_⟩
    obtain ⟨ys, hy, fy⟩ := id hp
    have l1 := fm.len
    have l2 := fy.len
    refine tSeq_step fun N hN => ?_
    walk_at "rd"
    refine ⟨p, f, rfl, hp, xs, .inl hm, _, rfl, ?_⟩
    split
    · rename_i z
      exact ⟨sz_le 1 (by decide), h0 (by omega)⟩
    rename_i z
    have hl : f.length ≤ ms.length := by omega
    refine hN _ _ ?_
    clear hN N
    refine tSeq_step fun N hN => ?_
    walk_at "rd"
    refine hN _ _ ?_
    clear hN N
    refine tSeq_step fun N hN => ?_
    walk_at "rd"
    refine ⟨ys, hy, fun i σ H' => ∃ r3 r4 rt, σ = [some (.ref m), some (.ref p), some (.ref rt), r3, r4] ∧ Same H H' ∧ Fq K H' rt (Mt.Su (fun n => Mt.cf f n * Mt.cf ms n) i), ⟨none, none, _, rfl, Same.refl _, T.nought _⟩, ?_, ?_, ?_⟩
    · rintro i σ H' _ ⟨_, _, _, _, sm, _⟩
      exact sm.seqT hy
    · rintro i x σ H1 t hxi ⟨r3, r4, rt, rfl, sm, qt⟩ ht
      have hi : i < f.length := by rw [l2]; exact (List.getElem?_eq_some_iff.mp hxi).1
      obtain ⟨pa, ea, fa⟩ := fy.at hi
      cases ea.symm.trans hxi
      obtain ⟨pb, eb, fb⟩ := fm.at (j := i) (by omega)
      have u := same_upd (o := .tup [.int i, .ref pa]) ht
      have et : SqT K (upd H1 t (.tup [.int i, .ref pa])) t [.int i, .ref pa] := SqT.of upd_same
      generalize upd H1 t (.tup [.int i, .ref pa]) = H2 at u et ⊢
      have sm2 := sm.trans u
      walk_at "rd"
      refine ⟨_, et, rfl, _, _, rfl, _, _, rfl, rfl, ?_⟩
      walk_at "rd"
      refine ⟨xs, sm2.seq hm, _, atI_nat eb, pa, pb, _, _, rfl, fa.same sm2, fb.same sm2, (rf i).mono (by decide), (wm i).mono (by decide), fun r1 H3 s3 n3 h3 => ?_⟩
      refine ⟨rt, r1, _, _, rfl, (qt.same u).same s3, Fq.of h3, (rs i (by omega)).mono (by decide), ((rf i).mul (wm i)).mono (by decide), fun r2 H4 s4 n4 h4 => ?_⟩
      exact ⟨_, _, r2, ⟨rfl, rfl, rfl⟩, (sm2.trans s3).trans s4, Fq.of h4⟩
    · rintro σ H1 ⟨r3, r4, rt, rfl, sm, qt⟩
      refine hN _ _ ?_
      walk_at "rd"
      rw [← l2] at qt
      exact h1 hl rt H1 sm qt
abbrev s_check_moments : Stmt := top 26
theorem sc_check_moments : FnScope ["moments"] ["moments"] (defScope s_check_moments) := ⟨rfl, rfl, rfl, by decide +kernel, rfl, by decide +kernel, by decide +kernel⟩
theorem ok_check_moments {f : Addr} {fd : FuncData} (F : Fun K "check_moments" "check_moments" s_check_moments f fd) (m : mg "check_moments" = some (.ref f)) (T : Tx w K mg C_NOUGHT C_NoFraction C_NoMoments C_ONE C_TooFar) : Callee P w K mg base 1 "check_moments" ["moments"] (spChkM K C_NoMoments) := by
  refine ⟨f, fd, ?_, m, F.kp, F.binds fun _ _ _ _ _ _ us hl => match us, hl with | [_], _ => rfl⟩
  refine F.okX sc_check_moments (fun vs H Q E h => ?_) (fun cdv A outer s H vs Q E hr h => ?_)
  · obtain ⟨_, _, _, rfl, _⟩ := h
    rfl
  · obtain ⟨m, xs, ms, rfl, hm, fm, l0, l1, l2, m0, hq⟩ := h
    refine ⟨_, (pss_cons (ps_if (PW.pt (pw_or (pt_cmpR op_ne (pe_op op_mod (pe_callB call_len_seq (by rfl) T.b_len PySem.boot_len (pa_cons (pv 0) pa_nil)) pe_int) pe_int (nomark _)) (pw_or1 (pt_not (pt_chain op_le op_le pe_int (pe_callB call_len_seq (by rfl) T.b_len PySem.boot_len (pa_cons (pv 0) pa_nil)) (pe_globI T.g_MOSTM)))))) (pss_one (ps_raise raises_cx rfl rfl T.m_NoMoments T.x_NoMoments (pa_cons pe_str pa_nil))) pss_nil) (pss_one (ps_if (pt_cmpR (op_neD hr.units) (pe_ix ix_list (pv 0) pe_int (fun _ _ => rfl)) (pe_glob (v := .ref C_ONE) rfl T.m_ONE rfl) (nomark _)) (pss_one (ps_raise raises_cx rfl rfl T.m_NoMoments T.x_NoMoments (pa_cons pe_str pa_nil))) pss_nil))), ?_⟩
    have lx := fm.len
    refine tSeq_step fun N hN => ?_
    walk_at "rd"
    refine ⟨xs, .inl hm, .inl ⟨by omega, xs, .inl hm, ?_⟩⟩
    rw [if_pos (by omega), if_pos (by omega)]
    refine hN _ _ ?_
    clear hN N
    obtain ⟨q, e, fq⟩ := fm.at (j := 0) (by omega)
    rw [m0] at fq
    walk_at "rd"
    refine ⟨xs, hm, _, atI_nat e, fr_cmp (rep_fr fq) (rep_fr (T.one H)) (.inl ⟨by simp, hq H (Same.refl _)⟩)⟩
abbrev s_weights_back : Stmt := top 27
theorem sc_weights_back : FnScope ["moments", "levels", "downs", "before", "now", "last_product", "last_sum", "h", "product", "level_sum", "further"] ["moments"] (defScope s_weights_back) := ⟨rfl, rfl, rfl, by decide +kernel, rfl, by decide +kernel, by decide +kernel⟩
theorem ok_weights_back {f : Addr} {fd : FuncData} (F : Fun K "weights_back" "weights_back" s_weights_back f fd) (m : mg "weights_back" = some (.ref f)) (T : Tx w K mg C_NOUGHT C_NoFraction C_NoMoments C_ONE C_TooFar) (c_check_moments : Callee P w K mg base 1 "check_moments" ["moments"] (spChkM K C_NoMoments)) (c_minus : Callee P w K mg base 3 "minus" ["a", "b"] (spBin K (fun a b => a - b))) (c_one_further : Callee P w K mg base 5 "one_further" ["level", "now", "down", "before"] (spFurther K)) (c_over : Callee P w K mg base 3 "over" ["a", "b"] (spOver K C_NoFraction)) (c_ruled : Callee P w K mg base 3 "ruled" ["moments", "poly"] (spRuledG K C_TooFar)) : Callee P w K mg base 6 "weights_back" ["moments"] (spBack K) := by
  refine ⟨f, fd, ?_, m, F.kp, F.binds fun _ _ _ _ _ _ us hl => match us, hl with | [_], _ => rfl⟩
  refine F.okE sc_weights_back (fun vs H Q E h => ?_) (fun cdv A outer s H vs Q E hr h => ?_)
  · obtain ⟨_, _, _, _, rfl, _⟩ := h
    rfl
  · obtain ⟨m, xs, L, D, rfl, hm, fm, ws, hq1, hq2⟩ := h
    refine ⟨_, (pss_cons (ps_expr (pe_c c_check_moments (hr.mono (by decide)) np (pa_cons (pv 0) pa_nil))) (pss_cons (ps_set (i := 1) sc_weights_back.nd rfl (Or.inl rfl) (pe_lst pa_nil)) (pss_cons (ps_set (i := 2) sc_weights_back.nd rfl (Or.inl rfl) (pe_lst pa_nil)) (pss_cons (ps_set (i := 3) sc_weights_back.nd rfl (Or.inl rfl) (pe_tup pa_nil)) (pss_cons (ps_set (i := 4) sc_weights_back.nd rfl (Or.inl rfl) (pe_tup (pa_cons (pe_glob (v := .ref C_ONE) rfl T.m_ONE rfl) pa_nil))) (pss_cons (ps_set (i := 5) sc_weights_back.nd rfl (Or.inl rfl) (pe_glob (v := .ref C_ONE) rfl T.m_ONE rfl)) (pss_cons (ps_set (i := 6) sc_weights_back.nd rfl (Or.inl rfl) (pe_glob (v := .ref C_NOUGHT) rfl T.m_NOUGHT rfl)) (pss_cons (ps_forR rfl PassesOwn.never T.b_range (pe_op op_fdivB (pe_callB call_len_seq (by rfl) T.b_len PySem.boot_len (pa_cons (pv 0) pa_nil)) pe_int) (pg_name (i := 7) sc_weights_back.nd rfl (Or.inl rfl)) (pss_cons (ps_set (i := 8) sc_weights_back.nd rfl (Or.inl rfl) (pe_c c_ruled (hr.mono (by decide)) np (pa_cons (pe_slice sl_list (pv 0) (po_some (pv 7)) po_none) (pa_cons (pv 4) pa_nil)))) (pss_cons (ps_if (pt_cmpR (op_eqD hr.units) (pv 8) (pe_glob (v := .ref C_NOUGHT) rfl T.m_NOUGHT rfl) (nomark _)) (pss_one (ps_ret (pe_tup (pa_cons pe_str (pa_cons (pe_op op_add (pv 7) pe_int) (pa_cons (pv 4) pa_nil)))))) pss_nil) (pss_cons (ps_set (i := 9) sc_weights_back.nd rfl (Or.inl rfl) (pe_c c_over (hr.mono (by decide)) np (pa_cons (pe_c c_ruled (hr.mono (by decide)) np (pa_cons (pe_slice sl_list (pv 0) (po_some (pe_op op_add (pv 7) pe_int)) po_none) (pa_cons (pv 4) pa_nil))) (pa_cons (pv 8) pa_nil)))) (pss_cons (ps_expr (pe_bm PySem.F.plainAttrs_list PySem.F.slot_list_append PySem.F.type_list_append mt_append (pv 1) (pa_cons (pe_c c_minus (hr.mono (by decide)) np (pa_cons (pv 9) (pa_cons (pv 6) pa_nil))) pa_nil))) (pss_cons (ps_expr (pe_bm PySem.F.plainAttrs_list PySem.F.slot_list_append PySem.F.type_list_append mt_append (pv 2) (pa_cons (pe_c c_over (hr.mono (by decide)) np (pa_cons (pv 8) (pa_cons (pv 5) pa_nil))) pa_nil))) (pss_cons (ps_set (i := 10) sc_weights_back.nd rfl (Or.inl rfl) (pe_c c_one_further (hr.mono (by decide)) np (pa_cons (pe_ix ix_list (pv 1) (pv 7) (fun _ _ => rfl)) (pa_cons (pv 4) (pa_cons (pe_ix ix_list (pv 2) (pv 7) (fun _ _ => rfl)) (pa_cons (pv 3) pa_nil)))))) (pss_cons (ps_set (i := 3) sc_weights_back.nd rfl (Or.inl rfl) (pv 4)) (pss_cons (ps_set (i := 4) sc_weights_back.nd rfl (Or.inl rfl) (pv 10)) (pss_cons (ps_set (i := 5) sc_weights_back.nd rfl (Or.inl rfl) (pv 8)) (pss_one (ps_set (i := 6) sc_weights_back.nd rfl (Or.inl rfl) (pv 9))))))))))))) (pss_one (ps_ret (pe_tup (pa_cons pe_str (pa_cons (pe_callTy call_tuple_of (by rfl) T.b_tuple (by decide +kernel) (pa_cons (pv 1) pa_nil)) (pa_cons (pe_callTy call_tuple_of (by rfl) T.b_tuple (by decide +kernel) (pa_cons (pe_slice sl_list (pv 2) (po_some pe_int) po_none) pa_nil)) pa_nil)))))))))))))), ?_⟩
    have wn := ws.n
    have wm := ws.m
    refine tSeq_step fun N hN => ?_
    walk_at "rd"
    refine ⟨m, xs, momL L D, rfl, hm, fm, by rw [momL_len]; omega, by rw [momL_len]; omega, by rw [momL_len]; omega, by rw [momL_at (by omega), Mt.sm_zero (by omega), if_pos rfl], fun H1 s1 => hN _ _ ?_⟩
    clear hN N
    have lx := fm.len
    rw [momL_len] at lx
    refine tSeq_step fun N hN => ?_
    walk_at "rd"
    refine fun LV nL => hN _ _ ?_
    clear hN N
    have u1 := same_upd (o := .lst []) nL
    have hL1 : upd H1 LV (.lst []) LV = some (.lst []) := upd_same
    generalize upd H1 LV (.lst []) = H2 at u1 hL1 ⊢
    refine tSeq_step fun N hN => ?_
    walk_at "rd"
    refine fun DN nD => hN _ _ ?_
    clear hN N
    have u2 := same_upd (o := .lst []) nD
    have hD1 : upd H2 DN (.lst []) DN = some (.lst []) := upd_same
    have ne : LV ≠ DN := ne_of_none hL1 nD
    generalize upd H2 DN (.lst []) = H3 at u2 hD1 ⊢
    replace hL1 := u2 _ _ hL1
    refine tSeq_step fun N hN => ?_
    walk_at "rd"
    refine fun p0 n0 => hN _ _ ?_
    clear hN N
    have u3 := same_upd (o := .tup []) n0
    have g0 : Pl K (upd H3 p0 (.tup [])) p0 [] := Pl.nil upd_same
    generalize upd H3 p0 (.tup []) = H4 at u3 g0 ⊢
    refine tSeq_step fun N hN => ?_
    walk_at "rd"
    refine ⟨sz_le 1 (by decide), fun p1 n1 => hN _ _ ?_⟩
    clear hN N
    have u4 := same_upd (o := .tup [.ref C_ONE]) n1
    have g1 : Pl K (upd H4 p1 (.tup [.ref C_ONE])) p1 [1] := ⟨_, SqT.of upd_same, Frs.cons (T.one _) Frs.nil⟩
    generalize upd H4 p1 (.tup [.ref C_ONE]) = H5 at u4 g1 ⊢
    replace g0 := g0.same u4
    have v5 := u3.trans u4
    replace hL1 := v5 _ _ hL1
    replace hD1 := v5 _ _ hD1
    have vA := ((s1.trans u1).trans u2).trans v5
    have nL0 : H LV = none := s1.free nL
    have nD0 : H DN = none := (s1.trans u1).free nD
    refine tSeq_step fun N hN => ?_
    walk_at "rd"
    refine hN _ _ ?_
    clear hN N
    refine tSeq_step fun N hN => ?_
    walk_at "rd"
    refine hN _ _ ?_
    clear hN N
    refine tSeq_step fun N hN => ?_
    walk_at "rd"
    refine ⟨xs, .inl (vA.seq hm), ⟨by decide, Bd.mono (m := 64) (show (_ : Nat) < _ by decide) (by decide)⟩, ?_⟩
    rw [show ((xs.length : Int).fdiv 2) = ((D.length + 1 : Nat) : Int) by rw [Int.fdiv_eq_ediv_of_nonneg _ (by decide)]; omega]
    refine ⟨by omega, by omega, ?_⟩
    rw [Int.toNat_natCast]
    have zS : ∀ i, i ≤ D.length + 1 → Sz 1300 (Mt.Su (Mt.cf L) i) := fun i hi => by
      rcases i with _ | i
      · exact Sz.zero (by decide)
      · rw [← Mt.smz_sum (L := L) (D := D) (T := D.length + 1) i (by omega), Mt.smz, if_pos (by omega)]
        exact ws.sm (by omega) _ _ _
    have zP : ∀ i, i ≤ 20 → Sz 1300 (Mt.pr (Mt.cf D) 0 i) := fun i hi => gd_sz (Mt.gd_pr (Mt.wg_cf ws.d) 0 i) (by omega)
    refine ⟨fun i σ H' => ∃ (be no lp ls : Addr) (r7 r8 r9 r10 : Option V) (us vs : List V), σ = [some (.ref m), some (.ref LV), some (.ref DN), some (.ref be), some (.ref no), some (.ref lp), some (.ref ls), r7, r8, r9, r10] ∧ Same H H' ∧ H' LV = some (.lst us) ∧ Frs K H' (L.take i) us ∧ H' DN = some (.lst vs) ∧ Frs K H' ((1 :: D).take i) vs ∧ Pl K H' be (if i = 0 then [] else Mt.rp L D (i - 1)) ∧ Pl K H' no (Mt.rp L D i) ∧ Fq K H' lp (Mt.pr (Mt.cf D) 0 (i - 1)) ∧ Fq K H' ls (Mt.Su (Mt.cf L) i) ∧ ∀ j, j < i → Mt.pr (Mt.cf D) 0 j ≠ 0, ⟨p0, p1, C_ONE, C_NOUGHT, none, none, none, none, [], [], rfl, vA, hL1, Frs.nil, hD1, Frs.nil, g0, g1, T.one _, T.nought _, fun j hj => absurd hj (by omega)⟩, ?_, ?_⟩
    · rintro i σ H6 hi ⟨be, no, lp, ls, r7, r8, r9, r10, us, vs, rfl, sm, hLV, fLV, hDN, fDN, pbe, pno, qlp, qls, nzs⟩
      have lu := fLV.len
      have lv := fDN.len
      rw [List.length_take] at lu lv
      simp only [List.length_cons] at lv
      have lr := Mt.rp_len L D i
      have lnr := rp_ln ws (n := i) (by omega)
      refine tSeq_step fun N hN => ?_
      walk_at "rd"
      refine ⟨m, xs, rfl, sm.seq hm, fun p2 n2 => ?_⟩
      rw [cutV_from xs i (by omega)]
      have w2 := same_upd (o := .lst (xs.drop i)) n2
      refine ⟨p2, no, _, (momL L D).drop i, _, rfl, SqL.of upd_same, ((fm.drop i).same sm).same w2, pno.same w2, by omega, fun n => (Ln.sz (momL_ln ws i) n).mono (by decide), fun n => (Ln.sz lnr n).mono (by decide), fun j hj => (Ln.dot lnr (momL_ln ws i) (by omega)).mono (by decide), fun z => absurd z (by rw [List.length_drop, momL_len]; omega), fun _ rp1 H7 s7 q7 => hN _ _ ?_⟩
      clear hN N
      rw [Mt.dot_drop (L := L) (D := D) (T := D.length + 1) _ i (fun k hk => momL_at (by omega)), Mt.back_prod (by omega)] at q7
      have t7 := w2.trans s7
      replace sm := sm.trans t7
      replace hLV := t7 _ _ hLV
      replace fLV := fLV.same t7
      replace hDN := t7 _ _ hDN
      replace fDN := fDN.same t7
      replace pbe := pbe.same t7
      replace pno := pno.same t7
      replace qlp := qlp.same t7
      replace qls := qls.same t7
      refine tSeq_step fun N hN => ?_
      walk_at "rd"
      refine fr_cmp (rep_fr q7) (rep_fr (T.nought H7)) ?_
      have step : ∀ j, Mt.pr (Mt.cf D) 0 (j + 1) = Mt.pr (Mt.cf D) 0 j * Mt.cf D j := fun j => by rw [Mt.pr, Nat.zero_add]
      by_cases z : Mt.pr (Mt.cf D) 0 i = 0
      · refine .inr ⟨by simp [z], sz_le 3 (by decide), fun p3 n3 => ?_⟩
        obtain ⟨h0, rfl⟩ : ∃ h0, i = h0 + 1 := ⟨i - 1, by
          rcases i with _ | i
          · exact absurd z (show ¬ (1 : Rat) = 0 by decide)
          · rfl⟩
        have cz : Mt.cf D h0 = 0 := by
          rw [step] at z
          exact (Rat.mul_eq_zero.mp z).resolve_left (nzs h0 (by omega))
        have u3' := same_upd (o := .tup [.str "barred", .int (((h0 + 1 : Nat) : Int) + 1), .ref no]) n3
        refine hq2 h0 (by omega) cz (fun h hh zz => ?_) p3 no _ (sm.trans u3') ?_ (pno.same u3')
        · refine nzs (h + 1) (by omega) ?_
          rw [step, zz, Rat.mul_zero]
        · rw [upd_same, show (h0 : Int) + 2 = ((h0 + 1 : Nat) : Int) + 1 by omega]
      refine .inl ⟨by simp [z], hN _ _ ?_⟩
      clear hN N
      refine tSeq_step fun N hN => ?_
      walk_at "rd"
      refine ⟨m, xs, rfl, sm.seq hm, fun p4 n4 => ?_⟩
      rw [show ((i : Int) + 1) = ((i + 1 : Nat) : Int) by omega, cutV_from xs (i + 1) (by omega)]
      have w4 := same_upd (o := .lst (xs.drop (i + 1))) n4
      refine ⟨p4, no, _, (momL L D).drop (i + 1), _, rfl, SqL.of upd_same, ((fm.drop (i + 1)).same sm).same w4, pno.same w4, by omega, fun n => (Ln.sz (momL_ln ws (i + 1)) n).mono (by decide), fun n => (Ln.sz lnr n).mono (by decide), fun j hj => (Ln.dot lnr (momL_ln ws (i + 1)) (by omega)).mono (by decide), fun z => absurd z (by rw [List.length_drop, momL_len]; omega), fun _ r2 H8 s8 q8 => ?_⟩
      rw [Mt.dot_drop (L := L) (D := D) (T := D.length + 1) _ (i + 1) (fun k hk => momL_at (by omega)), Mt.back_sum (by omega)] at q8
      have t8 := w4.trans s8
      refine ⟨r2, rp1, _, _, rfl, q8, q7.same t8, ((zS (i + 1) (by omega)).mul (zP i (by omega))).mono (by decide), (zP i (by omega)).mono (by decide), fun zz => absurd zz z, fun _ r3 H9 s9 n9 h9 => hN _ _ ?_⟩
      clear hN N
      have q9 : Fq K H9 r3 (Mt.Su (Mt.cf L) (i + 1)) := by
        have e : Mt.Su (Mt.cf L) (i + 1) * Mt.pr (Mt.cf D) 0 i / Mt.pr (Mt.cf D) 0 i = Mt.Su (Mt.cf L) (i + 1) := by
          rw [Rat.div_def, Rat.mul_assoc, Rat.mul_inv_cancel _ z, Rat.mul_one]
        rw [e] at h9
        exact Fq.of h9
      have t9 := t8.trans s9
      replace sm := sm.trans t9
      replace q7 := q7.same t9
      replace hLV := t9 _ _ hLV
      replace fLV := fLV.same t9
      replace hDN := t9 _ _ hDN
      replace fDN := fDN.same t9
      replace pbe := pbe.same t9
      replace pno := pno.same t9
      replace qlp := qlp.same t9
      replace qls := qls.same t9
      clear t9 t8 w4 s8 q8 h9 n9 n4
      refine tSeq_step fun N hN => ?_
      walk_at "rd"
      refine ⟨.inl ⟨rfl, _, SqL.of hLV⟩, r3, ls, _, _, rfl, q9, qls, (zS _ (by omega)).mono (by decide), (zS _ (by omega)).mono (by decide), fun r4 H10 s10 n10 h10 => ⟨us, s10 _ _ hLV, small1000 (by omega), hN _ _ ?_⟩⟩
      clear hN N
      have q10 : Fq K H10 r4 (Mt.cf L i) := by
        have e : Mt.Su (Mt.cf L) (i + 1) - Mt.Su (Mt.cf L) i = Mt.cf L i := by rw [Mt.Su]; grind
        replace h10 : H10 r4 = some (frO (Mt.Su (Mt.cf L) (i + 1) - Mt.Su (Mt.cf L) i)) := h10
        rw [e] at h10
        exact Fq.of h10
      have hL10 := s10 _ _ hLV
      have sm11 : Same H (upd H10 LV (.lst (us ++ [.ref r4]))) := (sm.trans s10).updL nL0
      have q7' : Fq K (upd H10 LV (.lst (us ++ [.ref r4]))) rp1 (Mt.pr (Mt.cf D) 0 i) := SqT.updL hL10 (q7.same s10)
      have q9' : Fq K (upd H10 LV (.lst (us ++ [.ref r4]))) r3 (Mt.Su (Mt.cf L) (i + 1)) := SqT.updL hL10 (q9.same s10)
      have q10' : Fq K (upd H10 LV (.lst (us ++ [.ref r4]))) r4 (Mt.cf L i) := SqT.updL hL10 q10
      have fLV' : Frs K (upd H10 LV (.lst (us ++ [.ref r4]))) (L.take (i + 1)) (us ++ [.ref r4]) := by
        rw [List.take_succ, show L[i]?.toList = [Mt.cf L i] by rw [List.getElem?_eq_getElem (by omega), Mt.cf, List.getD_eq_getElem?_getD, List.getElem?_eq_getElem (by omega)]; rfl]
        exact Frs.snoc (Frs.updL hL10 (fLV.same s10)) q10'
      have hLV' : upd H10 LV (.lst (us ++ [.ref r4])) LV = some (.lst (us ++ [.ref r4])) := upd_same
      have hDN' : upd H10 LV (.lst (us ++ [.ref r4])) DN = some (.lst vs) := by rw [upd_ne (Ne.symm ne)]; exact s10 _ _ hDN
      have fDN' : Frs K (upd H10 LV (.lst (us ++ [.ref r4]))) ((1 :: D).take i) vs := Frs.updL hL10 (fDN.same s10)
      have pbe' : Pl K (upd H10 LV (.lst (us ++ [.ref r4]))) be (if i = 0 then [] else Mt.rp L D (i - 1)) := Pl.updL hL10 (pbe.same s10)
      have pno' : Pl K (upd H10 LV (.lst (us ++ [.ref r4]))) no (Mt.rp L D i) := Pl.updL hL10 (pno.same s10)
      have qlp' : Fq K (upd H10 LV (.lst (us ++ [.ref r4]))) lp (Mt.pr (Mt.cf D) 0 (i - 1)) := SqT.updL hL10 (qlp.same s10)
      generalize upd H10 LV (.lst (us ++ [.ref r4])) = H11 at sm11 q7' q9' q10' fLV' hLV' hDN' fDN' pbe' pno' qlp' ⊢
      clear sm q7 q9 q10 fLV hLV hDN fDN pbe pno qlp qls s10 h10 hL10
      refine tSeq_step fun N hN => ?_
      walk_at "rd"
      refine ⟨.inl ⟨rfl, _, SqL.of hDN'⟩, rp1, lp, _, _, rfl, q7', qlp', (zP _ (by omega)).mono (by decide), (zP _ (by omega)).mono (by decide), fun zz => ?_, fun nz' r5 H12 s12 n12 h12 => ⟨vs, s12 _ _ hDN', small1000 (by omega), hN _ _ ?_⟩⟩
      · exfalso
        rcases i with _ | i
        · exact absurd zz (show ¬ (1 : Rat) = 0 by decide)
        · exact nzs i (by omega) zz
      clear hN N
      have q12 : Fq K H12 r5 (Mt.cf (1 :: D) i) := by
        replace h12 : H12 r5 = some (frO (Mt.pr (Mt.cf D) 0 i / Mt.pr (Mt.cf D) 0 (i - 1))) := h12
        rw [back_down nzs] at h12
        exact Fq.of h12
      have hD12 := s12 _ _ hDN'
      have sm13 : Same H (upd H12 DN (.lst (vs ++ [.ref r5]))) := (sm11.trans s12).updL nD0
      have q7'' : Fq K (upd H12 DN (.lst (vs ++ [.ref r5]))) rp1 (Mt.pr (Mt.cf D) 0 i) := SqT.updL hD12 (q7'.same s12)
      have q9'' : Fq K (upd H12 DN (.lst (vs ++ [.ref r5]))) r3 (Mt.Su (Mt.cf L) (i + 1)) := SqT.updL hD12 (q9'.same s12)
      have q10'' : Fq K (upd H12 DN (.lst (vs ++ [.ref r5]))) r4 (Mt.cf L i) := SqT.updL hD12 (q10'.same s12)
      have q12' : Fq K (upd H12 DN (.lst (vs ++ [.ref r5]))) r5 (Mt.cf (1 :: D) i) := SqT.updL hD12 q12
      have fDN'' : Frs K (upd H12 DN (.lst (vs ++ [.ref r5]))) ((1 :: D).take (i + 1)) (vs ++ [.ref r5]) := by
        rw [List.take_succ, show (1 :: D)[i]?.toList = [Mt.cf (1 :: D) i] by rw [List.getElem?_eq_getElem (by simp; omega), Mt.cf, List.getD_eq_getElem?_getD, List.getElem?_eq_getElem (by simp; omega)]; rfl]
        exact Frs.snoc (Frs.updL hD12 (fDN'.same s12)) q12'
      have hDN'' : upd H12 DN (.lst (vs ++ [.ref r5])) DN = some (.lst (vs ++ [.ref r5])) := upd_same
      have hLV'' : upd H12 DN (.lst (vs ++ [.ref r5])) LV = some (.lst (us ++ [.ref r4])) := by rw [upd_ne ne]; exact s12 _ _ hLV'
      have fLV'' : Frs K (upd H12 DN (.lst (vs ++ [.ref r5]))) (L.take (i + 1)) (us ++ [.ref r4]) := Frs.updL hD12 (fLV'.same s12)
      have pbe'' : Pl K (upd H12 DN (.lst (vs ++ [.ref r5]))) be (if i = 0 then [] else Mt.rp L D (i - 1)) := Pl.updL hD12 (pbe'.same s12)
      have pno'' : Pl K (upd H12 DN (.lst (vs ++ [.ref r5]))) no (Mt.rp L D i) := Pl.updL hD12 (pno'.same s12)
      generalize upd H12 DN (.lst (vs ++ [.ref r5])) = H13 at sm13 q7'' q9'' q10'' q12' fDN'' hDN'' hLV'' fLV'' pbe'' pno'' ⊢
      clear sm11 q7' q9' q10' q12 fLV' hLV' hDN' fDN' pbe' pno' qlp' s12 h12 hD12
      have a1 : atI (us ++ [V.ref r4]) (i : Int) = some (.ref r4) := atI_nat (by rw [List.getElem?_append_right (by omega), show i - us.length = 0 by omega]; rfl)
      have a2 : atI (vs ++ [V.ref r5]) (i : Int) = some (.ref r5) := atI_nat (by rw [List.getElem?_append_right (by omega), show i - vs.length = 0 by omega]; rfl)
      have wd : Mt.Wg (Mt.cf (1 :: D) i) := by
        rcases i with _ | i
        · rw [Mt.cf_zero]; exact Mt.wg_int (t := 1) (by decide)
        · rw [Mt.cf_succ]; exact Mt.wg_cf ws.d i
      have lb : (if i = 0 then [] else Mt.rp L D (i - 1)).length ≤ 30 ∧ Mt.Ln 320 320 (if i = 0 then [] else Mt.rp L D (i - 1)) := by
        split
        · exact ⟨by simp, Mt.Gp.nil.ln (n := 0) (by decide)⟩
        · exact ⟨by rw [Mt.rp_len]; omega, rp_ln ws (by omega)⟩
      refine tSeq_step fun N hN => ?_
      walk_at "rd"
      refine ⟨_, SqL.of hLV'', _, a1, _, SqL.of hDN'', _, a2, r4, no, r5, be, _, _, _, _, rfl, q10'', pno'', q12', pbe'', Mt.wg_cf ws.l i, wd, by omega, lb.1, lnr, lb.2, fun r6 H14 s14 h14 => hN _ _ ?_⟩
      clear hN N
      rw [back_next] at h14
      walk_at "rd"
      refine ⟨no, r6, rp1, r3, ⟨rfl, rfl, rfl, rfl⟩, sm13.trans s14, _, s14 _ _ hLV'', fLV''.same s14, _, s14 _ _ hDN'', fDN''.same s14, pno''.same s14, h14, q7''.same s14, q9''.same s14, fun j hj => ?_⟩
      rcases Nat.lt_or_ge j i with y | y
      · exact nzs j y
      · obtain rfl : j = i := by omega
        exact z
    · rintro σ H6 ⟨be, no, lp, ls, r7, r8, r9, r10, us, vs, rfl, sm, hLV, fLV, hDN, fDN, pbe, pno, qlp, qls, nzs⟩
      refine hN _ _ ?_
      clear hN N
      walk_at "rd"
      rw [List.take_of_length_le (by omega)] at fLV
      rw [List.take_of_length_le (by simp)] at fDN
      obtain ⟨pd0, vs', rfl, _, fD'⟩ := fDN.uncons
      refine ⟨us, .inl ⟨SqL.of hLV, fun l nl => ?_⟩⟩
      have w1 := same_upd (o := .tup us) nl
      have e1 : upd H6 l (.tup us) l = some (.tup us) := upd_same
      generalize upd H6 l (.tup us) = G1 at w1 e1 ⊢
      refine ⟨DN, _, rfl, SqL.of (w1 _ _ hDN), fun p2 n2 => ?_⟩
      rw [show cutV (V.ref pd0 :: vs') (some 1) none = vs' from cutV_from (V.ref pd0 :: vs') 1 (by simp)]
      have w2 := same_upd (o := .lst vs') n2
      have e2 : upd G1 p2 (.lst vs') p2 = some (.lst vs') := upd_same
      generalize upd G1 p2 (.lst vs') = G2 at w2 e2 ⊢
      refine ⟨p2, rfl, _, .inl ⟨SqL.of e2, fun l2 m2 => ⟨sz_le 3 (by decide), fun p3 n3 => ?_⟩⟩⟩
      have w3 := same_upd (o := .tup vs') m2
      have e3 : upd G2 l2 (.tup vs') l2 = some (.tup vs') := upd_same
      generalize upd G2 l2 (.tup vs') = G3 at w3 e3 n3 ⊢
      have w4 := same_upd (o := .tup [.str "weights", .ref l, .ref l2]) n3
      have v1 := (w2.trans w3).trans w4
      have v0 := w1.trans v1
      refine hq1 (fun h hh zz => ?_) p3 l l2 _ (sm.trans v0) upd_same ⟨us, SqT.of (v1 _ _ e1), fLV.same v0⟩ ⟨vs', SqT.of (w4 _ _ e3), fD'.same v0⟩
      refine nzs (h + 1) (by omega) ?_
      rw [Mt.pr, Nat.zero_add, zz, Rat.mul_zero]
abbrev s__law_cell_at : Stmt := top 29
theorem sc__law_cell_at : FnScope ["_law_script", "_law_k"] ["_law_script", "_law_k"] (defScope s__law_cell_at) := ⟨rfl, rfl, rfl, by decide +kernel, rfl, by decide +kernel, by decide +kernel⟩
theorem ok__law_cell_at {f : Addr} {fd : FuncData} (F : Fun K "_law_cell_at" "_law_cell_at" s__law_cell_at f fd) (m : mg "_law_cell_at" = some (.ref f)) (T : Tx w K mg C_NOUGHT C_NoFraction C_NoMoments C_ONE C_TooFar) : Callee P w K mg base 1 "_law_cell_at" ["_law_script", "_law_k"] (spCell K) := by
  refine ⟨f, fd, ?_, m, F.kp, F.binds fun _ _ _ _ _ _ us hl => match us, hl with | [_, _], _ => rfl⟩
  refine F.okE sc__law_cell_at (fun vs H Q E h => ?_) (fun cdv A outer s H vs Q E hr h => ?_)
  · obtain ⟨_, _, _, rfl, _⟩ := h
    rfl
  · obtain ⟨a, ns, k, rfl, hs, hk, hq⟩ := h
    refine ⟨_, (pss_cons (ps_if (pt_cmpR op_lt (pv 1) (pe_callB call_len_seq (by rfl) T.b_len PySem.boot_len (pa_cons (pv 0) pa_nil)) (nomark _)) (pss_one (ps_ret (pe_ix ix_list (pv 0) (pv 1) (fun _ _ => rfl)))) pss_nil) (pss_one (ps_ret pe_int))), ?_⟩
    walk_at "rd"
    refine ⟨ns.map V.int, .inl hs, ?_⟩
    split
    · rename_i hlt
      have hl : k.toNat < ns.length := by simp at hlt; omega
      refine ⟨ns.map V.int, hs, .int ns[k.toNat], ?_, hq _⟩
      have := atI_nat (xs := ns.map V.int) (j := k.toNat) (v := .int ns[k.toNat]) (by simp [hl])
      rw [Int.toNat_of_nonneg hk] at this
      exact this
    · exact hq 0
abbrev s__law_stir : Stmt := top 30
theorem sc__law_stir : FnScope ["_law_cell", "_law_k", "_law_c", "_law_low_here"] ["_law_cell", "_law_k"] (defScope s__law_stir) := ⟨rfl, rfl, rfl, by decide +kernel, rfl, by decide +kernel, by decide +kernel⟩
theorem ok__law_stir {f : Addr} {fd : FuncData} (F : Fun K "_law_stir" "_law_stir" s__law_stir f fd) (m : mg "_law_stir" = some (.ref f)) (T : Tx w K mg C_NOUGHT C_NoFraction C_NoMoments C_ONE C_TooFar) : Callee P w K mg base 1 "_law_stir" ["_law_cell", "_law_k"] (spStir) := by
  refine ⟨f, fd, ?_, m, F.kp, F.binds fun _ _ _ _ _ _ us hl => match us, hl with | [_, _], _ => rfl⟩
  refine F.okE sc__law_stir (fun vs H Q E h => ?_) (fun cdv A outer s H vs Q E hr h => ?_)
  · obtain ⟨_, _, rfl, _⟩ := h
    rfl
  · obtain ⟨c, k, rfl, hk, hk2, hq⟩ := h
    refine ⟨_, (pss_cons (ps_set (i := 2) sc__law_stir.nd rfl (Or.inl rfl) (pe_op op_add (pe_op op_add (pe_op op_add (pe_op op_mod (pv 0) (pe_op op_pow pe_int pe_int)) pe_int) (pe_op op_mul pe_int (pv 1))) (pe_op op_mul (pe_op op_mul pe_int (pv 1)) (pv 1)))) (pss_cons (ps_set (i := 3) sc__law_stir.nd rfl (Or.inl rfl) (pe_op op_mod (pe_op op_mul (pe_op op_mod (pe_op op_mul (pv 2) pe_int) pe_int) pe_int) pe_int)) (pss_one (ps_ret (pe_op op_add (pv 3) (pe_op op_mul pe_int (pe_op op_mod (pe_op op_mul (pe_op op_mul (pv 2) (pv 3)) pe_int) (pe_op op_add (pe_op op_pow pe_int pe_int) pe_int)))))))), ?_⟩
    walk_at "rd"
    refine ⟨.inl ⟨by decide, by decide⟩, .inl ⟨by decide, by decide⟩, .inr ⟨by omega, by omega⟩, .inr ⟨by decide, by decide⟩, .inr ⟨by decide, by decide⟩, .inr ?_, .inr ⟨by decide, by decide⟩, .inl ⟨by decide, by decide⟩, ?_⟩
    · generalize (c % 10000000000000000000000000000000000000000 + 1 + 13 * k + 7 * k * k) * 48271 % 2147483647 * 69621 = z
      exact ⟨by omega, by omega⟩
    · generalize (c % 10000000000000000000000000000000000000000 + 1 + 13 * k + 7 * k * k) * 48271 % 2147483647 * 69621 = z
      generalize (c % 10000000000000000000000000000000000000000 + 1 + 13 * k + 7 * k * k) * (z % 1000000007) * 2862933555777941757 = y
      exact hq _ (by omega) (by omega)
abbrev s__law_drawn : Stmt := top 31
theorem sc__law_drawn : FnScope ["_law_script", "_law_k", "_law_great", "_law_step"] ["_law_script", "_law_k"] (defScope s__law_drawn) := ⟨rfl, rfl, rfl, by decide +kernel, rfl, by decide +kernel, by decide +kernel⟩
theorem ok__law_drawn {f : Addr} {fd : FuncData} (F : Fun K "_law_drawn" "_law_drawn" s__law_drawn f fd) (m : mg "_law_drawn" = some (.ref f)) (T : Tx w K mg C_NOUGHT C_NoFraction C_NoMoments C_ONE C_TooFar) (c__law_cell_at : Callee P w K mg base 1 "_law_cell_at" ["_law_script", "_law_k"] (spCell K)) (c__law_stir : Callee P w K mg base 1 "_law_stir" ["_law_cell", "_law_k"] (spStir)) : Callee P w K mg base 2 "_law_drawn" ["_law_script", "_law_k"] (spDrawn K) := by
  refine ⟨f, fd, ?_, m, F.kp, F.binds fun _ _ _ _ _ _ us hl => match us, hl with | [_, _], _ => rfl⟩
  refine F.okE sc__law_drawn (fun vs H Q E h => ?_) (fun cdv A outer s H vs Q E hr h => ?_)
  · obtain ⟨_, _, _, rfl, _⟩ := h
    rfl
  · obtain ⟨a, ns, k, rfl, hs, hk, hk2, hq⟩ := h
    refine ⟨_, (pss_cons (ps_set (i := 2) sc__law_drawn.nd rfl (Or.inl rfl) (pe_c c__law_cell_at (hr.mono (by decide)) np (pa_cons (pv 0) (pa_cons pe_int pa_nil)))) (pss_cons (ps_if (PW.pt (pw_and (pt_cmpR op_eq (pe_op op_mod (pe_c c__law_cell_at (hr.mono (by decide)) np (pa_cons (pv 0) (pa_cons pe_int pa_nil))) pe_int) pe_int (nomark _)) (pw_and1 (pt_cmpR op_ge (pv 2) (pe_op op_pow pe_int pe_int) (nomark _))))) (pss_cons (ps_forR rfl PassesOwn.never T.b_range (pv 1) (pg_name (i := 3) sc__law_drawn.nd rfl (Or.inl rfl)) (pss_one (ps_set (i := 2) sc__law_drawn.nd rfl (Or.inl rfl) (pe_op op_fdivB (pv 2) (pe_op op_pow pe_int pe_int))))) (pss_one (ps_ret (pe_op op_mod (pv 2) (pe_op op_pow pe_int pe_int))))) pss_nil) (pss_one (ps_ret (pe_c c__law_stir (hr.mono (by decide)) np (pa_cons (pe_c c__law_cell_at (hr.mono (by decide)) np (pa_cons (pv 0) (pa_cons (pv 1) pa_nil))) (pa_cons (pv 1) pa_nil))))))), ?_⟩
    walk_at "rd"
    refine ⟨a, ns, 1, rfl, hs, by decide, fun great => ⟨a, ns, 0, rfl, hs, by decide, fun c0 => ?_⟩⟩
    walk_at "rd"
    have last : spCell K [V.ref a, V.int k] H (fun x H1 => spStir [x, V.int k] H1 Q E0) E0 := ⟨a, ns, k, rfl, hs, hk, fun c => ⟨c, k, rfl, hk, hk2, hq⟩⟩
    split
    · split
      · refine ⟨by omega, by omega, ?_⟩
        refine ⟨fun _ σ H' => ∃ (g : Int) (r : Option V), σ = [some (.ref a), some (.int k), some (.int g), r] ∧ H' = H, ⟨great, none, rfl, rfl⟩, ?_, ?_⟩
        · rintro i σ H' _ ⟨g, r, rfl, rfl⟩
          walk_at "rd"
          exact bd_ten60
        · rintro σ H' ⟨g, r, rfl, rfl⟩
          walk_at "rd"
          exact hq _ (by omega) (by omega)
      · exact last
    · exact last
abbrev s__law_whole : Stmt := top 32
theorem sc__law_whole : FnScope ["_law_found"] ["_law_found"] (defScope s__law_whole) := ⟨rfl, rfl, rfl, by decide +kernel, rfl, by decide +kernel, by decide +kernel⟩
theorem ok__law_whole {f : Addr} {fd : FuncData} (F : Fun K "_law_whole" "_law_whole" s__law_whole f fd) (m : mg "_law_whole" = some (.ref f)) (T : Tx w K mg C_NOUGHT C_NoFraction C_NoMoments C_ONE C_TooFar) : Callee P w K mg base 1 "_law_whole" ["_law_found"] (spWhole) := by
  refine ⟨f, fd, ?_, m, F.kp, F.binds fun _ _ _ _ _ _ us hl => match us, hl with | [_], _ => rfl⟩
  refine F.okE sc__law_whole (fun vs H Q E h => ?_) (fun cdv A outer s H vs Q E hr h => ?_)
  · obtain ⟨_, rfl, _⟩ := h
    rfl
  · obtain ⟨a, rfl, hq⟩ := h
    refine ⟨_, (pss_one (ps_ret (pe_and (pe_callB call_isi (by rfl) T.b_isinstance (by decide +kernel) (pa_cons (pv 0) (pa_cons (pe_bltn (v := .ty "int") (u := .type "int") rfl T.b_int (by decide +kernel) rfl) pa_nil))) (pe_one (pe_not (pe_callB call_isi (by rfl) T.b_isinstance (by decide +kernel) (pa_cons (pv 0) (pa_cons (pe_bltn (v := .ty "bool") (u := .type "bool") rfl T.b_bool (by decide +kernel) rfl) pa_nil)))))))), ?_⟩
    walk_at "rd"
    refine isi_ii (.inr ⟨rfl, isi_ib (.inl ⟨rfl, hq⟩)⟩)
abbrev s__law_divisor : Stmt := top 33
theorem sc__law_divisor : FnScope ["_law_a", "_law_b", "_law_rest"] ["_law_a", "_law_b"] (defScope s__law_divisor) := ⟨rfl, rfl, rfl, by decide +kernel, rfl, by decide +kernel, by decide +kernel⟩
theorem ok__law_divisor {f : Addr} {fd : FuncData} (F : Fun K "_law_divisor" "_law_divisor" s__law_divisor f fd) (m : mg "_law_divisor" = some (.ref f)) (T : Tx w K mg C_NOUGHT C_NoFraction C_NoMoments C_ONE C_TooFar) : Callee P w K mg base 1 "_law_divisor" ["_law_a", "_law_b"] (spGcd) := by
  refine ⟨f, fd, ?_, m, F.kp, F.binds fun _ _ _ _ _ _ us hl => match us, hl with | [_, _], _ => rfl⟩
  refine F.okE sc__law_divisor (fun vs H Q E h => ?_) (fun cdv A outer s H vs Q E hr h => ?_)
  · obtain ⟨_, _, rfl, _⟩ := h
    rfl
  · obtain ⟨a, b, rfl, hq⟩ := h
    refine ⟨_, (pss_cons (ps_set (i := 0) sc__law_divisor.nd rfl (Or.inl rfl) (pe_callB call_abs (by rfl) T.b_abs (by decide +kernel) (pa_cons (pv 0) pa_nil))) (pss_cons (ps_set (i := 1) sc__law_divisor.nd rfl (Or.inl rfl) (pe_callB call_abs (by rfl) T.b_abs (by decide +kernel) (pa_cons (pv 1) pa_nil))) (pss_cons (ps_wh PassesOwn.never (pt_cmpR op_gt (pv 1) pe_int (nomark _)) (pss_cons (ps_set (i := 2) sc__law_divisor.nd rfl (Or.inl rfl) (pe_op op_mod (pv 0) (pv 1))) (pss_cons (ps_set (i := 0) sc__law_divisor.nd rfl (Or.inl rfl) (pv 1)) (pss_one (ps_set (i := 1) sc__law_divisor.nd rfl (Or.inl rfl) (pv 2)))))) (pss_one (ps_ret (pv 0)))))), ?_⟩
    walk_at "rd"
    refine ⟨fun σ H' => ∃ (x y : Int) (r : Option V), σ = [some (.int x), some (.int y), r] ∧ H' = H ∧ 0 ≤ x ∧ 0 ≤ y ∧ Int.gcd x y = Int.gcd a b, fun σ _ => match σ with | [_, some (.int y), _] => y.toNat | _ => 0, ⟨_, _, none, rfl, rfl, ?_, ?_, gcd_abs a b⟩, ?_⟩
    · split <;> omega
    · split <;> omega
    rintro σ H' ⟨x, y, r, rfl, rfl, hx, hy, hg⟩
    by_cases hy0 : y = 0
    · subst hy0
      walk_at "rd"
      rw [← hg, gcd_end hx] at hq
      exact hq
    · have h1 := Int.emod_nonneg x hy0
      have h2 := Int.emod_lt_of_pos x (show 0 < y by omega)
      have h3 := gcd_step hx (show 0 < y by omega)
      walk_at "rd"
      rw [if_pos (show 0 < y by omega)]
      exact ⟨by omega, ⟨y, x % y, ⟨rfl, rfl⟩, hy, h1, h3.trans hg⟩, by omega⟩
abbrev s__law_low : Stmt := top 34
theorem sc__law_low : FnScope ["_law_top", "_law_bottom", "_law_by"] ["_law_top", "_law_bottom"] (defScope s__law_low) := ⟨rfl, rfl, rfl, by decide +kernel, rfl, by decide +kernel, by decide +kernel⟩
theorem ok__law_low {f : Addr} {fd : FuncData} (F : Fun K "_law_low" "_law_low" s__law_low f fd) (m : mg "_law_low" = some (.ref f)) (T : Tx w K mg C_NOUGHT C_NoFraction C_NoMoments C_ONE C_TooFar) (c__law_divisor : Callee P w K mg base 1 "_law_divisor" ["_law_a", "_law_b"] (spGcd)) : Callee P w K mg base 2 "_law_low" ["_law_top", "_law_bottom"] (spLow) := by
  refine ⟨f, fd, ?_, m, F.kp, F.binds fun _ _ _ _ _ _ us hl => match us, hl with | [_, _], _ => rfl⟩
  refine F.okE sc__law_low (fun vs H Q E h => ?_) (fun cdv A outer s H vs Q E hr h => ?_)
  · obtain ⟨_, _, rfl, _⟩ := h
    rfl
  · obtain ⟨t, b, rfl, hb, bb, hq⟩ := h
    refine ⟨_, (pss_cons (ps_if (pt_cmpR op_lt (pv 1) pe_int (nomark _)) (pss_cons (ps_set (i := 0) sc__law_low.nd rfl (Or.inl rfl) (pe_un un_neg (pv 0))) (pss_one (ps_set (i := 1) sc__law_low.nd rfl (Or.inl rfl) (pe_un un_neg (pv 1))))) pss_nil) (pss_cons (ps_set (i := 2) sc__law_low.nd rfl (Or.inl rfl) (pe_c c__law_divisor (hr.mono (by decide)) np (pa_cons (pv 0) (pa_cons (pv 1) pa_nil)))) (pss_one (ps_ret (pe_tup (pa_cons (pe_op op_fdivB (pv 0) (pv 2)) (pa_cons (pe_op op_fdivB (pv 1) (pv 2)) pa_nil))))))), ?_⟩
    walk_at "rd"
    rw [if_neg (by omega)]
    have hp := Int.gcd_pos_of_ne_zero_right t (show b ≠ 0 by omega)
    have bg : Bd 9000 ((Int.gcd t b : Nat) : Int) := bb.le (by simpa using Mt.gcd_le (t := t) (show b ≠ 0 by omega))
    have e := Mt.low_pos (t := t) hb
    refine ⟨t, b, rfl, _, rfl, bg.dv (by omega), _, rfl, bg.dv (by omega), sz_le 2 (by decide), fun p hp => ?_⟩
    rw [e.1, e.2]
    exact hq p hp
abbrev s__law_add : Stmt := top 35
theorem sc__law_add : FnScope ["_law_a", "_law_b"] ["_law_a", "_law_b"] (defScope s__law_add) := ⟨rfl, rfl, rfl, by decide +kernel, rfl, by decide +kernel, by decide +kernel⟩
theorem ok__law_add {f : Addr} {fd : FuncData} (F : Fun K "_law_add" "_law_add" s__law_add f fd) (m : mg "_law_add" = some (.ref f)) (T : Tx w K mg C_NOUGHT C_NoFraction C_NoMoments C_ONE C_TooFar) (c__law_low : Callee P w K mg base 2 "_law_low" ["_law_top", "_law_bottom"] (spLow)) : Callee P w K mg base 3 "_law_add" ["_law_a", "_law_b"] (spBin K (fun a b => a + b)) := by
  refine ⟨f, fd, ?_, m, F.kp, F.binds fun _ _ _ _ _ _ us hl => match us, hl with | [_, _], _ => rfl⟩
  refine F.okE sc__law_add (fun vs H Q E h => ?_) (fun cdv A outer s H vs Q E hr h => ?_)
  · obtain ⟨_, _, _, _, rfl, _⟩ := h
    rfl
  · obtain ⟨pa, pb, a, b, rfl, ha, hb, sa, sb, hq⟩ := h
    refine ⟨_, (pss_one (ps_ret (pe_c c__law_low (hr.mono (by decide)) np (pa_cons (pe_op op_add (pe_op op_mulB (pe_ix ix_fq (pv 0) pe_int (fun _ _ => rfl)) (pe_ix ix_fq (pv 1) pe_int (fun _ _ => rfl))) (pe_op op_mulB (pe_ix ix_fq (pv 1) pe_int (fun _ _ => rfl)) (pe_ix ix_fq (pv 0) pe_int (fun _ _ => rfl)))) (pa_cons (pe_op op_mulB (pe_ix ix_fq (pv 0) pe_int (fun _ _ => rfl)) (pe_ix ix_fq (pv 1) pe_int (fun _ _ => rfl))) pa_nil))))), ?_⟩
    dsimp only at hq
    walk_at "rd"
    refine ⟨a, ha, b, hb, sa.t.mu sb.b, b, hb, a, ha, sb.t.mu sa.b, a, ha, b, hb, sa.b.mu sb.b, _, _, rfl, Int.mul_pos (Mt.den_pos a) (Mt.den_pos b), (sa.b.mul sb.b).mono (by decide), fun p hp => ?_⟩
    rw [Mt.rat_add]
    exact hq p _ (same_upd hp) hp upd_same
abbrev s__law_mul : Stmt := top 36
theorem sc__law_mul : FnScope ["_law_a", "_law_b"] ["_law_a", "_law_b"] (defScope s__law_mul) := ⟨rfl, rfl, rfl, by decide +kernel, rfl, by decide +kernel, by decide +kernel⟩
theorem ok__law_mul {f : Addr} {fd : FuncData} (F : Fun K "_law_mul" "_law_mul" s__law_mul f fd) (m : mg "_law_mul" = some (.ref f)) (T : Tx w K mg C_NOUGHT C_NoFraction C_NoMoments C_ONE C_TooFar) (c__law_low : Callee P w K mg base 2 "_law_low" ["_law_top", "_law_bottom"] (spLow)) : Callee P w K mg base 3 "_law_mul" ["_law_a", "_law_b"] (spBin K (fun a b => a * b)) := by
  refine ⟨f, fd, ?_, m, F.kp, F.binds fun _ _ _ _ _ _ us hl => match us, hl with | [_, _], _ => rfl⟩
  refine F.okE sc__law_mul (fun vs H Q E h => ?_) (fun cdv A outer s H vs Q E hr h => ?_)
  · obtain ⟨_, _, _, _, rfl, _⟩ := h
    rfl
  · obtain ⟨pa, pb, a, b, rfl, ha, hb, sa, sb, hq⟩ := h
    refine ⟨_, (pss_one (ps_ret (pe_c c__law_low (hr.mono (by decide)) np (pa_cons (pe_op op_mulB (pe_ix ix_fq (pv 0) pe_int (fun _ _ => rfl)) (pe_ix ix_fq (pv 1) pe_int (fun _ _ => rfl))) (pa_cons (pe_op op_mulB (pe_ix ix_fq (pv 0) pe_int (fun _ _ => rfl)) (pe_ix ix_fq (pv 1) pe_int (fun _ _ => rfl))) pa_nil))))), ?_⟩
    dsimp only at hq
    walk_at "rd"
    refine ⟨a, ha, b, hb, sa.t.mu sb.t, a, ha, b, hb, sa.b.mu sb.b, _, _, rfl, Int.mul_pos (Mt.den_pos a) (Mt.den_pos b), (sa.b.mul sb.b).mono (by decide), fun p hp => ?_⟩
    rw [Mt.rat_mul]
    exact hq p _ (same_upd hp) hp upd_same
abbrev s__law_is_fraction : Stmt := top 37
theorem sc__law_is_fraction : FnScope ["_law_found"] ["_law_found"] (defScope s__law_is_fraction) := ⟨rfl, rfl, rfl, by decide +kernel, rfl, by decide +kernel, by decide +kernel⟩
theorem ok__law_is_fraction {f : Addr} {fd : FuncData} (F : Fun K "_law_is_fraction" "_law_is_fraction" s__law_is_fraction f fd) (m : mg "_law_is_fraction" = some (.ref f)) (T : Tx w K mg C_NOUGHT C_NoFraction C_NoMoments C_ONE C_TooFar) (c__law_divisor : Callee P w K mg base 1 "_law_divisor" ["_law_a", "_law_b"] (spGcd)) (c__law_whole : Callee P w K mg base 1 "_law_whole" ["_law_found"] (spWhole)) : Callee P w K mg base 2 "_law_is_fraction" ["_law_found"] (spIsFq K) := by
  refine ⟨f, fd, ?_, m, F.kp, F.binds fun _ _ _ _ _ _ us hl => match us, hl with | [_], _ => rfl⟩
  refine F.okE sc__law_is_fraction (fun vs H Q E h => ?_) (fun cdv A outer s H vs Q E hr h => ?_)
  · obtain ⟨_, _, rfl, _⟩ := h
    rfl
  · obtain ⟨p, q, rfl, hp, hq⟩ := h
    refine ⟨_, (pss_cons (ps_if (PW.pt (pw_or (pt_not (pt_val (pe_callB call_isiT (by rfl) T.b_isinstance (by decide +kernel) (pa_cons (pv 0) (pa_cons (pe_bltn (v := .ty "tuple") (u := .type "tuple") rfl T.b_tuple (by decide +kernel) rfl) pa_nil))))) (pw_or1 (pt_cmpR op_ne (pe_callB call_len_seq (by rfl) T.b_len PySem.boot_len (pa_cons (pv 0) pa_nil)) pe_int (nomark _))))) (pss_one (ps_ret pe_bl)) pss_nil) (pss_cons (ps_if (PW.pt (pw_or (pt_not (pt_val (pe_c c__law_whole (hr.mono (by decide)) np (pa_cons (pe_ix ix_fq (pv 0) pe_int (fun _ _ => rfl)) pa_nil)))) (pw_or (pt_not (pt_val (pe_c c__law_whole (hr.mono (by decide)) np (pa_cons (pe_ix ix_fq (pv 0) pe_int (fun _ _ => rfl)) pa_nil)))) (pw_or1 (pt_cmpR op_lt (pe_ix ix_fq (pv 0) pe_int (fun _ _ => rfl)) pe_int (nomark _)))))) (pss_one (ps_ret pe_bl)) pss_nil) (pss_one (ps_ret (pe_cmpR op_eq (pe_c c__law_divisor (hr.mono (by decide)) np (pa_cons (pe_ix ix_fq (pv 0) pe_int (fun _ _ => rfl)) (pa_cons (pe_ix ix_fq (pv 0) pe_int (fun _ _ => rfl)) pa_nil))) pe_int (nomark _)))))), ?_⟩
    have f := Mt.fr_rat q
    have e : SqT K H p [.int q.num, .int (q.den : Int)] := hp
    walk_at "rd"
    refine isi_sq e (.inr ⟨rfl, _, .inr e, .inl ⟨rfl, q, hp, q.num, rfl, .inr ⟨rfl, q, hp, (q.den : Int), rfl, .inr ⟨rfl, q, hp, ?_⟩⟩⟩⟩)
    rw [if_neg (by have := f.pos; omega)]
    refine ⟨q, hp, q, hp, _, _, rfl, rfl, ?_⟩
    rw [f.low]
    exact hq
abbrev s__law_told_weights : Stmt := top 38
theorem sc__law_told_weights : FnScope ["_law_found"] ["_law_found"] (defScope s__law_told_weights) := ⟨rfl, rfl, rfl, by decide +kernel, rfl, by decide +kernel, by decide +kernel⟩
theorem ok__law_told_weights {f : Addr} {fd : FuncData} (F : Fun K "_law_told_weights" "_law_told_weights" s__law_told_weights f fd) (m : mg "_law_told_weights" = some (.ref f)) (T : Tx w K mg C_NOUGHT C_NoFraction C_NoMoments C_ONE C_TooFar) (c__law_is_fraction : Callee P w K mg base 2 "_law_is_fraction" ["_law_found"] (spIsFq K)) : Callee P w K mg base 3 "_law_told_weights" ["_law_found"] (spTldW K) := by
  refine ⟨f, fd, ?_, m, F.kp, F.binds fun _ _ _ _ _ _ us hl => match us, hl with | [_], _ => rfl⟩
  refine F.okE sc__law_told_weights (fun vs H Q E h => ?_) (fun cdv A outer s H vs Q E hr h => ?_)
  · obtain ⟨_, _, _, _, _, rfl, _⟩ := h
    rfl
  · obtain ⟨r, a, b, L, D, rfl, hr0, hL, hD, lL, lD, hq⟩ := h
    refine ⟨_, (pss_cons (ps_if (PW.pt (pw_or (pt_not (pt_val (pe_callB call_isiT (by rfl) T.b_isinstance (by decide +kernel) (pa_cons (pv 0) (pa_cons (pe_bltn (v := .ty "tuple") (u := .type "tuple") rfl T.b_tuple (by decide +kernel) rfl) pa_nil))))) (pw_or (pt_cmpR op_ne (pe_callB call_len_seq (by rfl) T.b_len PySem.boot_len (pa_cons (pv 0) pa_nil)) pe_int (nomark _)) (pw_or1 (pt_cmpR op_ne (pe_ix ix_tup (pv 0) pe_int (fun _ _ => rfl)) pe_str (nomark _)))))) (pss_one (ps_ret pe_bl)) pss_nil) (pss_cons (ps_if (PW.pt (pw_or (pt_not (pt_val (pe_callB call_isiT (by rfl) T.b_isinstance (by decide +kernel) (pa_cons (pe_ix ix_tup (pv 0) pe_int (fun _ _ => rfl)) (pa_cons (pe_bltn (v := .ty "tuple") (u := .type "tuple") rfl T.b_tuple (by decide +kernel) rfl) pa_nil))))) (pw_or1 (pt_not (pt_val (pe_callB call_isiT (by rfl) T.b_isinstance (by decide +kernel) (pa_cons (pe_ix ix_tup (pv 0) pe_int (fun _ _ => rfl)) (pa_cons (pe_bltn (v := .ty "tuple") (u := .type "tuple") rfl T.b_tuple (by decide +kernel) rfl) pa_nil)))))))) (pss_one (ps_ret pe_bl)) pss_nil) (pss_one (ps_ret (pe_callB (call_all rfl) (by rfl) T.b_all (by decide +kernel) (pa_cons (PCo.pe (coT (pe_op op_catA (pe_ix ix_tup (pv 0) pe_int (fun _ _ => rfl)) (pe_ix ix_tup (pv 0) pe_int (fun _ _ => rfl))) (fun _ hpi => pe_comp0 ["_law_one"] rfl hpi (fun _ _ _ _ _ => (pg_name (i := 0) (show List.Nodup [("_law_one" : Str)] by decide +kernel) rfl (Or.inl rfl) (Or.inr rfl)).mo) (fun _ _ _ _ _ => PE.mo (pe_c c__law_is_fraction (hr.mono (by decide)) np (pa_cons (pv 0) pa_nil)))))) pa_nil)))))), ?_⟩
    walk_at "rd"
    have e : SqT K H r [.str "weights", .ref a, .ref b] := SqT.of hr0
    obtain ⟨us, hu, fu⟩ := id hL
    obtain ⟨vs, hv, fv⟩ := id hD
    have l1 := fu.len
    have l2 := fv.len
    refine isi_sq e (.inr ⟨rfl, _, .inr e, .inl ⟨rfl, _, e, _, rfl, rfl, .inl ⟨rfl, _, e, _, rfl, isi_sq hu (.inr ⟨rfl, _, e, _, rfl, isi_sq hv (.inr ⟨rfl, _, e, _, rfl, _, e, _, rfl, ?_⟩)⟩)⟩⟩⟩)
    refine catP hL hD (by omega) (by omega) fun z H1 s1 hz => ?_
    obtain ⟨ys, hy, fy⟩ := id hz
    have ly := fy.len
    rw [List.length_append] at ly
    refine ⟨z, rfl, ys, hy, CO.pure1 (fun _ => .bl true) (by omega) (fun H' s => s.seqT hy) (fun i H' x R hi s hx kk => ?_) fun D1 H2 s2 n2 h2 => ⟨D1, rfl, List.replicate ys.length true, ?_, ?_⟩⟩
    · obtain ⟨pa, ea, fa⟩ := fy.at (j := i) (by rw [List.length_append]; omega)
      cases ea.symm.trans hx
      walk_at "rd"
      exact ⟨pa, _, rfl, fa.same s, kk _ _ rfl (Same.refl _)⟩
    · rw [h2]
      exact congrArg (fun l => some (HO.lst l)) (List.ext_getElem (by simp) (by simp))
    · have := hq H2 (s1.trans s2)
      simpa using this
abbrev s__law_ways : Stmt := top 39
theorem sc__law_ways : FnScope ["_law_many", "_law_flat", "_law_row", "_law_found", "_law_length", "_law_fresh", "_law_h"] ["_law_many", "_law_flat"] (defScope s__law_ways) := ⟨rfl, rfl, rfl, by decide +kernel, rfl, by decide +kernel, by decide +kernel⟩
theorem ok__law_ways {f : Addr} {fd : FuncData} (F : Fun K "_law_ways" "_law_ways" s__law_ways f fd) (m : mg "_law_ways" = some (.ref f)) (T : Tx w K mg C_NOUGHT C_NoFraction C_NoMoments C_ONE C_TooFar) : Callee P w K mg base 1 "_law_ways" ["_law_many", "_law_flat"] (spWays24 K) := by
  refine ⟨f, fd, ?_, m, F.kp, F.binds fun _ _ _ _ _ _ us hl => match us, hl with | [_, _], _ => rfl⟩
  refine F.okE sc__law_ways (fun vs H Q E h => ?_) (fun cdv A outer s H vs Q E hr h => ?_)
  · obtain ⟨_, _, rfl, _⟩ := h
    rfl
  · obtain ⟨k, f, rfl, hk, hf, hq⟩ := h
    refine ⟨_, (pss_cons (ps_set (i := 2) sc__law_ways.nd rfl (Or.inl rfl) (pe_op op_cat (pe_lst (pa_cons pe_int pa_nil)) (pe_op op_rep (pe_lst (pa_cons pe_int pa_nil)) (pv 0)))) (pss_cons (ps_set (i := 3) sc__law_ways.nd rfl (Or.inl rfl) (pe_lst pa_nil)) (pss_cons (ps_forR rfl PassesOwn.never T.b_range (pv 0) (pg_name (i := 4) sc__law_ways.nd rfl (Or.inl rfl)) (pss_cons (ps_expr (pe_bm PySem.F.plainAttrs_list PySem.F.slot_list_append PySem.F.type_list_append mt_append (pv 3) (pa_cons (pe_tup (pa_cons (pe_ix ix_list (pv 2) pe_int (fun _ _ => rfl)) (pa_cons pe_int pa_nil))) pa_nil))) (pss_cons (ps_set (i := 5) sc__law_ways.nd rfl (Or.inl rfl) (pe_lst pa_nil)) (pss_cons (ps_forR rfl PassesOwn.never T.b_range (pv 0) (pg_name (i := 6) sc__law_ways.nd rfl (Or.inl rfl)) (pss_one (ps_expr (pe_bm PySem.F.plainAttrs_list PySem.F.slot_list_append PySem.F.type_list_append mt_append (pv 5) (pa_cons (pe_op op_add (pe_op op_add (pe_ix ix_list (pv 2) (pe_op op_add (pv 6) pe_int) (fun _ _ => rfl)) (pe_op op_mul (pv 1) (pe_ix ix_list (pv 2) (pv 6) (fun _ _ => rfl)))) (pe_ifExp (pt_cmpR op_gt (pv 6) pe_int (nomark _)) (pe_ix ix_list (pv 2) (pe_op op_sub (pv 6) pe_int) (fun _ _ => rfl)) pe_int)) pa_nil))))) (pss_one (ps_set (i := 2) sc__law_ways.nd rfl (Or.inl rfl) (pe_op op_cat (pv 5) (pe_lst (pa_cons pe_int pa_nil))))))))) (pss_one (ps_ret (pv 3)))))), ?_⟩
    refine tSeq_step fun N hN => ?_
    simp [tSeq, tIfS, tTest, tB, tOp, rI, rI0, rEq, rNe, scal, tVar, tC, tCB, tCons, tNil, tNext, tRet, tRetN, L2.start, rIxL, rIxT, rFqI, tAsg, gName, tUn, rU, tNot, tNotV, tAnd, tOr, tAndV, tOrV, tIf, tTup, tLst, tCall, tCallS, tDrop, tForR, tForT, tForL, tForE, tForV, gTup, gCons, gNil, gSub, rSetL, tRaise, tTry, tH, Ends.gone, cσ, CPow, tCoR, tCoL, tCoT, tCoX, tForX, tExcInit, tFs, sXset, tXget, tRaiseI, tJoinRev, tChain, rAll, tHno, cx_K, cxU_K, rIn, tSl, tNoPart, tPart, rAppend, tBM, tForR2, tBM0, rClear, rReverse, tPar, tVs, tCoZ, tCoRH, tHE, tListRev, tForZ, tForVL, tForZL, rRep, rCat]
    have rp : ∀ m : Nat, (List.replicate m [V.int 0]).flatten = (List.replicate m (0 : Int)).map V.int := fun m => by
      induction m with
      | zero => rfl
      | succ m ih => rw [List.replicate_succ, List.replicate_succ, List.flatten_cons, ih]; rfl
    have gv : ∀ (l : List Int) (i : Nat), i < l.length → (l.map V.int)[i]? = some (.int (l.getD i 0)) := fun l i hi => by
      rw [List.getElem?_map, List.getElem?_eq_getElem hi, List.getD_eq_getElem?_getD, List.getElem?_eq_getElem hi]; rfl
    refine ⟨sz_le 1 (by decide), fun p1 n1 => ⟨sz_le 1 (by decide), fun p2 n2 => ?_⟩⟩
    have u1 := same_upd (o := .lst [.int 1]) n1
    have h1 : upd H p1 (.lst [.int 1]) p1 = some (.lst [.int 1]) := upd_same
    generalize upd H p1 (.lst [.int 1]) = H1 at u1 h1 n2 ⊢
    refine ⟨_, upd_same, by omega, by omega, sz_le _ (by simp; omega), fun p3 n3 => ?_⟩
    have u2 := same_upd (o := .lst [.int 0]) n2
    generalize upd H1 p2 (.lst [.int 0]) = H2 at u2 n3 ⊢
    rw [rp]
    have u3 := same_upd (o := .lst ((List.replicate (2 * (k : Int) + 2).toNat (0 : Int)).map V.int)) n3
    refine ⟨_, u3 _ _ (u2 _ _ h1), _, upd_same, sz_le _ (by simp; omega), fun R0 nR => hN _ _ ?_⟩
    clear hN N
    generalize hm : 2 * k + 2 = m
    have em : (2 * (k : Int) + 2) = (m : Int) := by omega
    have hm16 : m ≤ 16 := by omega
    rw [em, Int.toNat_natCast] at u3 nR ⊢
    generalize upd H2 p3 (.lst ((List.replicate m (0 : Int)).map V.int)) = H3 at u3 nR ⊢
    have u4 := same_upd (o := .lst ([V.int 1] ++ (List.replicate m (0 : Int)).map V.int)) nR
    have hR0 : upd H3 R0 (.lst ([V.int 1] ++ (List.replicate m (0 : Int)).map V.int)) R0 = some (.lst ((Mt.wrw m f 0).map V.int)) := upd_same
    generalize upd H3 R0 (.lst ([V.int 1] ++ (List.replicate m (0 : Int)).map V.int)) = H4 at u4 hR0 ⊢
    have s4 := ((u1.trans u2).trans u3).trans u4
    clear u4 u3 u2 u1 h1
    refine tSeq_step fun N hN => ?_
    walk_at "rd"
    refine fun FO nF => hN _ _ ?_
    clear hN N
    have u5 := same_upd (o := .lst []) nF
    have hF0 : upd H4 FO (.lst []) FO = some (.lst []) := upd_same
    have ne0 : R0 ≠ FO := ne_of_none hR0 nF
    generalize upd H4 FO (.lst []) = H5 at u5 hF0 ⊢
    have nFH : H FO = none := s4.free nF
    refine tSeq_step fun N hN => ?_
    walk_at "rd"
    refine ⟨by omega, fun i σ H' => ∃ (R : Addr) (r4 r5 r6 : Option V) (ys : List V), σ = [some (.int m), some (.int f), some (.ref R), some (.ref FO), r4, r5, r6] ∧ Same H H' ∧ H' R = some (.lst ((Mt.wrw m f i).map V.int)) ∧ R ≠ FO ∧ H' FO = some (.lst ys) ∧ Frs K H' ((List.range i).map fun n => (((Mt.known f).getD n 0 : Int) : Rat)) ys, ⟨R0, none, none, none, [], rfl, s4.trans u5, u5 _ _ hR0, ne0, hF0, Frs.nil⟩, ?_, ?_⟩
    · rintro i σ H6 hi ⟨R, r4, r5, r6, ys, rfl, s6, hR, ne, hF, fF⟩
      have lw := Mt.wrw_len m f i
      have ly := fF.len
      rw [List.length_map, List.length_range] at ly
      refine tSeq_step fun N hN => ?_
      walk_at "rd"
      have a0 := atI_nat (gv (Mt.wrw m f i) 0 (by omega))
      refine ⟨.inl ⟨rfl, _, SqL.of hF⟩, _, SqL.of hR, _, a0, sz_le 2 (by decide), fun p np => ⟨ys, same_upd np _ _ hF, small1000 (by omega), hN _ _ ?_⟩⟩
      clear hN N
      have e0 : (Mt.wrw m f i).getD 0 0 = (Mt.known f).getD i 0 := by rw [← hm]; exact Mt.wrw_is f hf k hk i (by omega)
      rw [e0]
      have u6 := same_upd (o := .tup [.int ((Mt.known f).getD i 0), .int 1]) np
      have qp : Fq K (upd H6 p (.tup [.int ((Mt.known f).getD i 0), .int 1])) p (((Mt.known f).getD i 0 : Int) : Rat) := Fq.of (by rw [frO_int]; exact upd_same)
      generalize upd H6 p (.tup [.int ((Mt.known f).getD i 0), .int 1]) = H7 at u6 qp ⊢
      have hF7 := u6 _ _ hF
      have s8 : Same H (upd H7 FO (.lst (ys ++ [.ref p]))) := (s6.trans u6).updL nFH
      have hR8 : upd H7 FO (.lst (ys ++ [.ref p])) R = some (.lst ((Mt.wrw m f i).map V.int)) := by rw [upd_ne ne]; exact u6 _ _ hR
      have hF8 : upd H7 FO (.lst (ys ++ [.ref p])) FO = some (.lst (ys ++ [.ref p])) := upd_same
      have fF8 : Frs K (upd H7 FO (.lst (ys ++ [.ref p]))) ((List.range (i + 1)).map fun n => (((Mt.known f).getD n 0 : Int) : Rat)) (ys ++ [.ref p]) := by
        rw [List.range_succ, List.map_append]
        exact Frs.updL hF7 (Frs.snoc (fF.same u6) qp)
      generalize upd H7 FO (.lst (ys ++ [.ref p])) = H8 at s8 hR8 hF8 fF8 ⊢
      clear hF7 qp u6 a0 e0 fF hF hR s6
      refine tSeq_step fun N hN => ?_
      walk_at "rd"
      refine fun G nG => hN _ _ ?_
      clear hN N
      have u9 := same_upd (o := .lst []) nG
      have hG0 : upd H8 G (.lst []) G = some (.lst []) := upd_same
      have nRG : R ≠ G := ne_of_none hR8 nG
      have nFG : FO ≠ G := ne_of_none hF8 nG
      have nGH : H G = none := s8.free nG
      generalize upd H8 G (.lst []) = H9 at u9 hG0 ⊢
      refine tSeq_step fun N hN => ?_
      walk_at "rd"
      generalize hw : Mt.wrw m f i = w at hR8 lw
      obtain ⟨F, eF⟩ : ∃ F : Nat → Int, F = fun h => w.getD (h + 1) 0 + (f : Int) * w.getD h 0 + (if 0 < h then w.getD (h - 1) 0 else 0) := ⟨_, rfl⟩
      refine ⟨by omega, fun h σ H' => ∃ (r6 : Option V), σ = [some (.int m), some (.int f), some (.ref R), some (.ref FO), some (.int i), some (.ref G), r6] ∧ Same H8 H' ∧ H' G = some (.lst (((List.range h).map F).map V.int)), ⟨_, rfl, u9, hG0⟩, ?_, ?_⟩
      · rintro h σ H10 hh ⟨r6, rfl, s10, hG⟩
        have a1 := atI_nat (gv w (h + 1) (by omega))
        have a2 := atI_nat (gv w h (by omega))
        have hR10 := s10 _ _ hR8
        rw [show ((h + 1 : Nat) : Int) = (h : Int) + 1 by omega] at a1
        walk_at "rd"
        refine ⟨.inl ⟨rfl, _, SqL.of hG⟩, _, SqL.of hR10, _, a1, _, SqL.of hR10, _, a2, ?_⟩
        have lF : (((List.range h).map F).map V.int).length < sizeLine := small1000 (by simp; omega)
        have nx : ∀ z, F h = z → ((List.range h).map F).map V.int ++ [V.int z] = ((List.range (h + 1)).map F).map V.int := fun z e => by rw [List.range_succ, List.map_append, List.map_append, ← e]; rfl
        refine ⟨_, rfl, .inl ⟨by omega, by omega⟩, _, rfl, ?_⟩
        split
        · rename_i h0
          have a3 := atI_nat (gv w (h - 1) (by omega))
          rw [show ((h - 1 : Nat) : Int) = (h : Int) - 1 by omega] at a3
          refine ⟨_, SqL.of hR10, _, a3, _, rfl, _, hG, lF, s10.updL nG, ?_⟩
          rw [nx _ (by rw [eF]; simp only [if_pos h0])]
          rw [upd_same, List.map_map]
        · rename_i h0
          refine ⟨_, hG, lF, s10.updL nG, ?_⟩
          rw [nx _ (by rw [eF]; simp only [if_neg h0]; omega)]
          rw [upd_same, List.map_map]
      · rintro σ H10 ⟨r6, rfl, s10, hG⟩
        refine hN _ _ ?_
        clear hN N
        simp [tSeq, tIfS, tTest, tB, tOp, rI, rI0, rEq, rNe, scal, tVar, tC, tCB, tCons, tNil, tNext, tRet, tRetN, L2.start, rIxL, rIxT, rFqI, tAsg, gName, tUn, rU, tNot, tNotV, tAnd, tOr, tAndV, tOrV, tIf, tTup, tLst, tCall, tCallS, tDrop, tForR, tForT, tForL, tForE, tForV, gTup, gCons, gNil, gSub, rSetL, tRaise, tTry, tH, Ends.gone, cσ, CPow, tCoR, tCoL, tCoT, tCoX, tForX, tExcInit, tFs, sXset, tXget, tRaiseI, tJoinRev, tChain, rAll, tHno, cx_K, cxU_K, rIn, tSl, tNoPart, tPart, rAppend, tBM, tForR2, tBM0, rClear, rReverse, tPar, tVs, tCoZ, tCoRH, tHE, tListRev, tForZ, tForVL, tForZL, rCat]
        refine ⟨sz_le 1 (by decide), fun p np => ?_⟩
        have u11 := same_upd (o := .lst [.int 0]) np
        have hp : upd H10 p (.lst [.int 0]) p = some (.lst [.int 0]) := upd_same
        generalize upd H10 p (.lst [.int 0]) = H11 at u11 hp ⊢
        have hF11 := u11 _ _ (s10 _ _ hF8)
        refine ⟨_, u11 _ _ hG, _, hp, sz_le _ (by simp; omega), fun q nq => ?_⟩
        have u12 := same_upd (o := .lst (((List.range m).map F).map V.int ++ [V.int 0])) nq
        refine ⟨((s8.trans s10).trans u11).trans u12, ?_, fun z => ?_, _, u12 _ _ hF11, ?_⟩
        · rw [upd_same, Mt.wrw, hw, ← eF, List.map_append]; rfl
        · rw [z] at nq; rw [hF11] at nq; cases nq
        · have := fF8.same ((s10.trans u11).trans u12)
          simpa using this
    · rintro σ H6 ⟨R, r4, r5, r6, ys, rfl, s6, hR, ne, hF, fF⟩
      refine hN _ _ ?_
      clear hN N
      walk_at "rd"
      exact hq FO H6 ys s6 nFH hF (by rw [hm]; exact fF)
abbrev s__law_sets : Stmt := top 40
theorem sc__law_sets : FnScope ["_law_many", "_law_a", "_law_row", "_law_found", "_law_length", "_law_fresh", "_law_sets_here", "_law_total", "_law_power", "_law_number"] ["_law_many", "_law_a"] (defScope s__law_sets) := ⟨rfl, rfl, rfl, by decide +kernel, rfl, by decide +kernel, by decide +kernel⟩
theorem ok__law_sets {f : Addr} {fd : FuncData} (F : Fun K "_law_sets" "_law_sets" s__law_sets f fd) (m : mg "_law_sets" = some (.ref f)) (T : Tx w K mg C_NOUGHT C_NoFraction C_NoMoments C_ONE C_TooFar) (c__law_add : Callee P w K mg base 3 "_law_add" ["_law_a", "_law_b"] (spBin K (fun a b => a + b))) (c__law_mul : Callee P w K mg base 3 "_law_mul" ["_law_a", "_law_b"] (spBin K (fun a b => a * b))) : Callee P w K mg base 4 "_law_sets" ["_law_many", "_law_a"] (spSets24 K) := by
  refine ⟨f, fd, ?_, m, F.kp, F.binds fun _ _ _ _ _ _ us hl => match us, hl with | [_, _], _ => rfl⟩
  refine F.okE sc__law_sets (fun vs H Q E h => ?_) (fun cdv A outer s H vs Q E hr h => ?_)
  · obtain ⟨_, _, _, rfl, _⟩ := h
    rfl
  · obtain ⟨k, pa, a, rfl, hk, ha, wa, hq⟩ := h
    refine ⟨_, (pss_cons (ps_set (i := 2) sc__law_sets.nd rfl (Or.inl rfl) (pe_lst (pa_cons (pe_tup (pa_cons pe_int (pa_cons pe_int pa_nil))) pa_nil))) (pss_cons (ps_set (i := 3) sc__law_sets.nd rfl (Or.inl rfl) (pe_lst (pa_cons (pe_tup (pa_cons pe_int (pa_cons pe_int pa_nil))) pa_nil))) (pss_cons (ps_forR2 rfl PassesOwn.never T.b_range pe_int (pv 0) (pg_name (i := 4) sc__law_sets.nd rfl (Or.inl rfl)) (pss_cons (ps_set (i := 5) sc__law_sets.nd rfl (Or.inl rfl) (pe_lst (pa_cons (pe_tup (pa_cons pe_int (pa_cons pe_int pa_nil))) pa_nil))) (pss_cons (ps_forR2 rfl PassesOwn.never T.b_range pe_int (pe_op op_add (pv 4) pe_int) (pg_name (i := 6) sc__law_sets.nd rfl (Or.inl rfl)) (pss_cons (ps_set (i := 7) sc__law_sets.nd rfl (Or.inl rfl) (pe_ix ix_list (pv 2) (pe_op op_sub (pv 6) pe_int) (fun _ _ => rfl))) (pss_cons (ps_if (pt_cmpR op_lt (pv 6) (pv 4) (nomark _)) (pss_one (ps_set (i := 7) sc__law_sets.nd rfl (Or.inl rfl) (pe_c c__law_add (hr.mono (by decide)) np (pa_cons (pv 7) (pa_cons (pe_tup (pa_cons (pe_op op_mul (pe_ix ix_fq (pe_ix ix_list (pv 2) (pv 6) (fun _ _ => rfl)) pe_int (fun _ _ => rfl)) (pv 6)) (pa_cons (pe_ix ix_fq (pe_ix ix_list (pv 2) (pv 6) (fun _ _ => rfl)) pe_int (fun _ _ => rfl)) pa_nil))) pa_nil))))) pss_nil) (pss_one (ps_expr (pe_bm PySem.F.plainAttrs_list PySem.F.slot_list_append PySem.F.type_list_append mt_append (pv 5) (pa_cons (pv 7) pa_nil))))))) (pss_cons (ps_set (i := 2) sc__law_sets.nd rfl (Or.inl rfl) (pv 5)) (pss_cons (ps_set (i := 7) sc__law_sets.nd rfl (Or.inl rfl) (pe_tup (pa_cons pe_int (pa_cons pe_int pa_nil)))) (pss_cons (ps_set (i := 8) sc__law_sets.nd rfl (Or.inl rfl) (pe_tup (pa_cons pe_int (pa_cons pe_int pa_nil)))) (pss_cons (ps_forL rfl PassesOwn.never (pv 2) (pg_name (i := 9) sc__law_sets.nd rfl (Or.inl rfl)) (pss_cons (ps_set (i := 7) sc__law_sets.nd rfl (Or.inl rfl) (pe_c c__law_add (hr.mono (by decide)) np (pa_cons (pv 7) (pa_cons (pe_c c__law_mul (hr.mono (by decide)) np (pa_cons (pv 9) (pa_cons (pv 8) pa_nil))) pa_nil)))) (pss_one (ps_set (i := 8) sc__law_sets.nd rfl (Or.inl rfl) (pe_c c__law_mul (hr.mono (by decide)) np (pa_cons (pv 8) (pa_cons (pv 1) pa_nil))))))) (pss_one (ps_expr (pe_bm PySem.F.plainAttrs_list PySem.F.slot_list_append PySem.F.type_list_append mt_append (pv 3) (pa_cons (pv 7) pa_nil))))))))))) (pss_one (ps_ret (pv 3)))))), ?_⟩
    refine tSeq_step fun N hN => ?_
    walk_at "rd"
    refine ⟨sz_le 2 (by decide), fun p1 n1 => ⟨sz_le 1 (by decide), fun R0 nR => hN _ _ ?_⟩⟩
    clear hN N
    have u1 := same_upd (o := .tup [.int 1, .int 1]) n1
    have q1 : Fq K (upd H p1 (.tup [.int 1, .int 1])) p1 1 := Fq.of upd_same
    generalize upd H p1 (.tup [.int 1, .int 1]) = H1 at u1 q1 nR ⊢
    have u2 := same_upd (o := .lst [.ref p1]) nR
    have hR : upd H1 R0 (.lst [.ref p1]) R0 = some (.lst [.ref p1]) := upd_same
    generalize upd H1 R0 (.lst [.ref p1]) = H2 at u2 hR ⊢
    replace q1 := q1.same u2
    refine tSeq_step fun N hN => ?_
    walk_at "rd"
    refine ⟨sz_le 2 (by decide), fun p2 n2 => ⟨sz_le 1 (by decide), fun FO nF => hN _ _ ?_⟩⟩
    clear hN N
    have u3 := same_upd (o := .tup [.int 1, .int 1]) n2
    have q2 : Fq K (upd H2 p2 (.tup [.int 1, .int 1])) p2 1 := Fq.of upd_same
    generalize upd H2 p2 (.tup [.int 1, .int 1]) = H3 at u3 q2 nF ⊢
    have u4 := same_upd (o := .lst [.ref p2]) nF
    have hF : upd H3 FO (.lst [.ref p2]) FO = some (.lst [.ref p2]) := upd_same
    generalize upd H3 FO (.lst [.ref p2]) = H4 at u4 hF ⊢
    replace q2 := q2.same u4
    have nF0 : H FO = none := ((u1.trans u2).trans u3).free nF
    have sA := ((u1.trans u2).trans u3).trans u4
    have hR4 := (u3.trans u4) _ _ hR
    have q14 := q1.same (u3.trans u4)
    have neF : R0 ≠ FO := ne_of_none (u3 _ _ hR) nF
    refine tSeq_step fun N hN => ?_
    walk_at "rd"
    generalize hm : 2 * k + 2 = m
    have em : (2 * (k : Int) + 2) = (m : Int) := by omega
    have hm16 : m ≤ 16 := by omega
    rw [em]
    have szT : ∀ n j, n < 16 → j ≤ 17 → Sz 1300 (Mt.Su (fun j => (((Mt.st n).getD j 0 : Int) : Rat) * Mt.pk a j) j) := fun n j hn hj => (lat_sz (m := 1290) (Mt.gd_tc wa hn hj) (Nat.pow_pos (by decide)) (by decide +kernel) (Nat.lt_of_le_of_lt (Nat.mul_le_mul_right _ hj) (by decide +kernel))).mono (by decide)
    have szP : ∀ j, j ≤ 20 → Sz 1300 (Mt.pk a j) := fun j hj => gd_sz (Mt.gd_pk wa j) (by omega)
    have szI : ∀ n j, n < 16 → j < 17 → Sz 60 (((Mt.st n).getD j 0 : Int) : Rat) := fun n j hn hj => Sz.int (show (_ : Nat) < _ by have := Mt.st_bd n hn j hj; omega) (by decide)
    obtain ⟨F, eF⟩ : ∃ F : Nat → Nat → Int, F = fun n j => (Mt.st n).getD j 0 := ⟨_, rfl⟩
    have t0 : Mt.tc a 0 = 1 := by rw [Mt.tc, Mt.Su, Mt.Su]; show (0 : Rat) + ((1 : Int) : Rat) * 1 = 1; grind
    have F0 : ((F 0 0 : Int) : Rat) = 1 := by rw [eF]; rfl
    have Fz : ∀ n, ((F (n + 1) 0 : Int) : Rat) = 0 := fun n => by rw [eF]; show (((Mt.st (n + 1)).getD 0 0 : Int) : Rat) = 0; rw [Mt.st_zero _ (by omega)]; rfl
    have Fs : ∀ n j, j ≤ n → F (n + 1) (j + 1) = if j < n then F n j + F n (j + 1) * ((j + 1 : Nat) : Int) else F n j := fun n j hj => by
      rw [eF]
      show (Mt.st (n + 1)).getD (j + 1) 0 = _
      rw [Mt.st_at (by omega) (by omega), Nat.add_sub_cancel]
      by_cases z : j < n
      · rw [if_pos z, if_pos (by omega)]
      · rw [if_neg z, if_neg (by omega)]
    have Fb : ∀ n j, n < 16 → j < 17 → (F n j).natAbs ≤ 2 ^ 31 := fun n j hn hj => by rw [eF]; exact Mt.st_bd n hn j hj
    have Ft : ∀ n, Mt.Su (fun j => ((F n j : Int) : Rat) * Mt.pk a j) (n + 1) = Mt.tc a n := fun n => by rw [eF]; rfl
    have szT' : ∀ n j, n < 16 → j ≤ 17 → Sz 1300 (Mt.Su (fun j => ((F n j : Int) : Rat) * Mt.pk a j) j) := fun n j hn hj => by rw [eF]; exact szT n j hn hj
    have szI' : ∀ n j, n < 16 → j < 17 → Sz 60 ((F n j : Int) : Rat) := fun n j hn hj => by rw [eF]; exact szI n j hn hj
    clear szT szI
    refine ⟨by omega, fun i σ H' => ∃ (R : Addr) (r4 r5 r6 r7 r8 r9 : Option V) (us ys : List V), σ = [some (.int m), some (.ref pa), some (.ref R), some (.ref FO), r4, r5, r6, r7, r8, r9] ∧ Same H H' ∧ R ≠ FO ∧ H' R = some (.lst us) ∧ Frs K H' ((List.range (i + 1)).map fun j => ((F i j : Int) : Rat)) us ∧ H' FO = some (.lst ys) ∧ Frs K H' ((List.range (i + 1)).map fun n => Mt.tc a n) ys, ⟨R0, none, none, none, none, none, none, _, _, rfl, sA, neF, hR4, Frs.cons (by show Fq K H4 p1 ((F 0 0 : Int) : Rat); rw [F0]; exact q14) Frs.nil, hF, Frs.cons (by show Fq K H4 p2 (Mt.tc a 0); rw [t0]; exact q2) Frs.nil⟩, ?_, ?_⟩
    · rintro i σ H5 hi ⟨R, r4, r5, r6, r7, r8, r9, us, ys, rfl, s5, ne, hR5, fR, hF5, fF⟩
      have lu := fR.len
      have ly := fF.len
      rw [List.length_map, List.length_range] at lu ly
      refine tSeq_step fun N hN => ?_
      walk_at "rd"
      refine ⟨sz_le 2 (by decide), fun p3 n3 => ⟨sz_le 1 (by decide), fun G nG => hN _ _ ?_⟩⟩
      clear hN N
      have v1 := same_upd (o := .tup [.int 0, .int 1]) n3
      have q3 : Fq K (upd H5 p3 (.tup [.int 0, .int 1])) p3 0 := Fq.of upd_same
      generalize upd H5 p3 (.tup [.int 0, .int 1]) = H6 at v1 q3 nG ⊢
      have v2 := same_upd (o := .lst [.ref p3]) nG
      have hG : upd H6 G (.lst [.ref p3]) G = some (.lst [.ref p3]) := upd_same
      generalize upd H6 G (.lst [.ref p3]) = H7 at v2 hG ⊢
      have nG5 : H5 G = none := v1.free nG
      have neG : G ≠ FO := fun z => by rw [z, hF5] at nG5; cases nG5
      have v12 := v1.trans v2
      replace q3 := q3.same v2
      refine tSeq_step fun N hN => ?_
      walk_at "rd"
      refine ⟨⟨by omega, by omega⟩, fun c σ H' => ∃ (r6 r7 : Option V) (gs : List V), σ = [some (.int m), some (.ref pa), some (.ref R), some (.ref FO), some (.int (1 + (i : Int))), some (.ref G), r6, r7, r8, r9] ∧ Same H5 H' ∧ H' G = some (.lst gs) ∧ Frs K H' ((List.range (c + 1)).map fun j => ((F (i + 1) j : Int) : Rat)) gs, ⟨_, _, _, rfl, v12, hG, Frs.cons (by show Fq K H7 p3 ((F (i + 1) 0 : Int) : Rat); rw [Fz]; exact q3) Frs.nil⟩, ?_, ?_⟩
      · rintro c σ H8 hc ⟨r6, r7, gs, rfl, s8, hG8, fG⟩
        have lg := fG.len
        rw [List.length_map, List.length_range] at lg
        have hc' : c ≤ i := by omega
        obtain ⟨pt, et, qt⟩ := fR.at (j := c) (by simp; omega)
        rw [Mt.cf_map_range, if_pos (by omega)] at qt
        have at1 := atI_nat et
        rw [show ((c : Nat) : Int) = 1 + (c : Int) - 1 by omega] at at1
        refine tSeq_step fun N hN => ?_
        walk_at "rd"
        refine ⟨us, SqL.of (s8 _ _ hR5), _, at1, hN _ _ ?_⟩
        clear hN N
        refine tSeq_step fun N hN => ?_
        have next : ∀ pz H9, Same H8 H9 → Fq K H9 pz ((F (i + 1) (c + 1) : Int) : Rat) → N [some (.int m), some (.ref pa), some (.ref R), some (.ref FO), some (.int (1 + (i : Int))), some (.ref G), some (.int (1 + (c : Int))), some (.ref pz), r8, r9] H9 := fun pz H9 s9 q9 => by
          refine hN _ _ ?_
          clear hN N
          have hG9 := s9 _ _ hG8
          walk_at "rd"
          refine ⟨.inl ⟨rfl, _, SqL.of hG9⟩, gs, hG9, small1000 (by omega), (s8.trans s9).updL nG5, _, upd_same, ?_⟩
          rw [List.range_succ, List.map_append]
          exact Frs.updL hG9 (Frs.snoc (fG.same s9) q9)
        clear hN
        have fs := Fs i c hc'
        walk_at "rd"
        by_cases z : c < i
        · rw [if_pos (by omega)]
          rw [if_pos z] at fs
          obtain ⟨pu, eu, qu⟩ := fR.at (j := c + 1) (by simp; omega)
          rw [Mt.cf_map_range, if_pos (by omega)] at qu
          have at2 := atI_nat eu
          rw [show ((c + 1 : Nat) : Int) = 1 + (c : Int) by omega] at at2
          have b1 := Fb i (c + 1) (by omega) (by omega)
          have bz : (F i (c + 1) * ((c + 1 : Nat) : Int)).natAbs ≤ 2 ^ 31 * 17 := by rw [Int.natAbs_mul]; exact Nat.mul_le_mul b1 (by omega)
          refine ⟨us, SqL.of (s8 _ _ hR5), _, at2, pu, rfl, _, qu.same s8, .inr ⟨by omega, by omega⟩, us, SqL.of (s8 _ _ hR5), _, at2, pu, rfl, _, qu.same s8, sz_le 2 (by decide), fun p4 n4 => ?_⟩
          have e4 : HO.tup [V.int (((F i (c + 1) : Int) : Rat).num * (1 + (c : Int))), V.int ((((F i (c + 1) : Int) : Rat).den : Nat) : Int)] = frO ((F i (c + 1) * ((c + 1 : Nat) : Int) : Int) : Rat) := by
            rw [frO_int, Rat.num_intCast, Rat.den_intCast, show ((c + 1 : Nat) : Int) = 1 + (c : Int) by omega]
            rfl
          rw [e4]
          have u9 := same_upd (o := frO ((F i (c + 1) * ((c + 1 : Nat) : Int) : Int) : Rat)) n4
          have q4 : Fq K (upd H8 p4 (frO ((F i (c + 1) * ((c + 1 : Nat) : Int) : Int) : Rat))) p4 ((F i (c + 1) * ((c + 1 : Nat) : Int) : Int) : Rat) := Fq.of upd_same
          generalize upd H8 p4 (frO ((F i (c + 1) * ((c + 1 : Nat) : Int) : Int) : Rat)) = H9 at u9 q4 ⊢
          refine ⟨pt, p4, _, _, rfl, (qt.same s8).same u9, q4, (szI' i c (by omega) (by omega)).mono (by decide), Sz.int (show (_ : Nat) < _ by exact Nat.lt_of_le_of_lt bz (by decide +kernel)) (by decide), fun r1 H10 s10 n10 h10 => next r1 H10 (u9.trans s10) ?_⟩
          rw [fs, Rat.intCast_add]
          exact Fq.of h10
        · rw [if_neg (by omega)]
          rw [if_neg z] at fs
          exact next pt H8 (Same.refl _) (by rw [fs]; exact (qt.same s8))
      · rintro σ H8 ⟨r6, r7, gs, rfl, s8, hG8, fG⟩
        refine hN _ _ ?_
        clear hN N
        refine tSeq_step fun N hN => ?_
        walk_at "rd"
        refine hN _ _ ?_
        clear hN N
        have ei : ((1 + (i : Int) + 1).toNat - 1) = i + 1 := by omega
        rw [ei] at fG
        refine tSeq_step fun N hN => ?_
        walk_at "rd"
        refine ⟨sz_le 2 (by decide), fun p5 n5 => hN _ _ ?_⟩
        clear hN N
        have w1 := same_upd (o := .tup [.int 0, .int 1]) n5
        have q5 : Fq K (upd H8 p5 (.tup [.int 0, .int 1])) p5 0 := Fq.of upd_same
        generalize upd H8 p5 (.tup [.int 0, .int 1]) = H9 at w1 q5 ⊢
        refine tSeq_step fun N hN => ?_
        walk_at "rd"
        refine ⟨sz_le 2 (by decide), fun p6 n6 => hN _ _ ?_⟩
        clear hN N
        have w2 := same_upd (o := .tup [.int 1, .int 1]) n6
        have q6 : Fq K (upd H9 p6 (.tup [.int 1, .int 1])) p6 1 := Fq.of upd_same
        generalize upd H9 p6 (.tup [.int 1, .int 1]) = H10 at w2 q6 ⊢
        replace q5 := q5.same w2
        have w12 := w1.trans w2
        have s10 := s8.trans w12
        have hG10 := w12 _ _ hG8
        replace fG := fG.same w12
        have lg := fG.len
        rw [List.length_map, List.length_range] at lg
        clear w1 w2 w12 s8 hG8
        refine tSeq_step fun N hN => ?_
        walk_at "rd"
        have hG5 : ∀ H', Same H10 H' → H' G = some (.lst gs) := fun H' s => s _ _ hG10
        refine ⟨gs, SqL.of hG10, fun c σ H' => ∃ (tt pp : Addr) (r9 : Option V), σ = [some (.int m), some (.ref pa), some (.ref G), some (.ref FO), some (.int (1 + (i : Int))), some (.ref G), r6, some (.ref tt), some (.ref pp), r9] ∧ Same H10 H' ∧ Fq K H' tt (Mt.Su (fun j => ((F (i + 1) j : Int) : Rat) * Mt.pk a j) c) ∧ Fq K H' pp (Mt.pk a c), ⟨p5, p6, r9, rfl, Same.refl _, q5, q6⟩, ?_, ?_, ?_⟩
        · rintro c σ H11 hc ⟨tt, pp, r9, rfl, s11, qt, qp⟩
          exact SqL.of (hG5 _ s11)
        · rintro c x σ H11 hx ⟨tt, pp, r9, rfl, s11, qt, qp⟩
          have hc : c < gs.length := (List.getElem?_eq_some_iff.mp hx).1
          obtain ⟨pn, en, qn⟩ := fG.at (j := c) (by simp; omega)
          cases en.symm.trans hx
          rw [Mt.cf_map_range, if_pos (by omega)] at qn
          have z1 := szI' (i + 1) c (by omega) (by omega)
          have z2 := szP c (by omega)
          have z3 := szT' (i + 1) c (by omega) (by omega)
          refine tSeq_step fun N hN => ?_
          walk_at "rd"
          refine ⟨pn, pp, _, _, rfl, qn.same s11, qp, z1.mono (by decide), z2.mono (by decide), fun r1 H12 s12 n12 h12 => ⟨tt, r1, _, _, rfl, qt.same s12, Fq.of h12, z3.mono (by decide), (z1.mul z2).mono (by decide), fun r2 H13 s13 n13 h13 => hN _ _ ?_⟩⟩
          clear hN N
          have s13' := s12.trans s13
          walk_at "rd"
          refine ⟨pp, pa, _, _, rfl, qp.same s13', ha.same ((((s5.trans s10).trans s11).trans s13')), z2.mono (by decide), (wg_sz wa).mono (by decide), fun r3 H14 s14 n14 h14 => ?_⟩
          exact ⟨r2, r3, ⟨rfl, rfl⟩, (s11.trans s13').trans s14, (Fq.of h13).same s14, Fq.of h14⟩
        · rintro σ H11 ⟨tt, pp, r9, rfl, s11, qt, qp⟩
          refine hN _ _ ?_
          clear hN N
          rw [← lg, Ft] at qt
          have s11' := s10.trans s11
          have hF11 := s11' _ _ hF5
          walk_at "rd"
          refine ⟨.inl ⟨rfl, _, SqL.of hF11⟩, ys, hF11, small1000 (by omega), ?_⟩
          refine ⟨(s5.trans s11').updL nF0, neG, gs, ?_, Frs.updL hF11 (fG.same s11), _, upd_same, ?_⟩
          · rw [upd_ne neG]; exact hG5 _ s11
          · rw [List.range_succ, List.map_append]
            exact Frs.updL hF11 (Frs.snoc (fF.same s11') qt)
    · rintro σ H5 ⟨R, r4, r5, r6, r7, r8, r9, us, ys, rfl, s5, ne, hR5, fR, hF5, fF⟩
      refine hN _ _ ?_
      clear hN N
      walk_at "rd"
      exact hq FO H5 ys s5 nF0 hF5 (by
        have e : (m : Int).toNat - 1 + 1 = 2 * k + 2 := by omega
        rw [e] at fF
        exact fF)
abbrev s__law_counted : Stmt := top 41
theorem sc__law_counted : FnScope ["_law_family", "_law_many", "_law_a", "_law_found", "_law_length"] ["_law_family", "_law_many", "_law_a"] (defScope s__law_counted) := ⟨rfl, rfl, rfl, by decide +kernel, rfl, by decide +kernel, by decide +kernel⟩
theorem ok__law_counted {f : Addr} {fd : FuncData} (F : Fun K "_law_counted" "_law_counted" s__law_counted f fd) (m : mg "_law_counted" = some (.ref f)) (T : Tx w K mg C_NOUGHT C_NoFraction C_NoMoments C_ONE C_TooFar) (c__law_sets : Callee P w K mg base 4 "_law_sets" ["_law_many", "_law_a"] (spSets24 K)) (c__law_ways : Callee P w K mg base 1 "_law_ways" ["_law_many", "_law_flat"] (spWays24 K)) : Callee P w K mg base 5 "_law_counted" ["_law_family", "_law_many", "_law_a"] (spCnt24 K) := by
  refine ⟨f, fd, ?_, m, F.kp, F.binds fun _ _ _ _ _ _ us hl => match us, hl with | [_, _, _], _ => rfl⟩
  refine F.okE sc__law_counted (fun vs H Q E h => ?_) (fun cdv A outer s H vs Q E hr h => ?_)
  · obtain ⟨_, _, _, _, rfl, _⟩ := h
    rfl
  · obtain ⟨f, k, pa, a, rfl, hf, hk, ha, wa, hq⟩ := h
    refine ⟨_, (pss_cons (ps_if (pt_cmpR op_lt (pv 0) pe_int (nomark _)) (pss_one (ps_ret (pe_c c__law_ways (hr.mono (by decide)) np (pa_cons (pv 1) (pa_cons (pv 0) pa_nil))))) pss_nil) (pss_cons (ps_if (PW.pt (pw_or (pt_cmpR op_eq (pv 0) pe_int (nomark _)) (pw_or1 (pt_cmpR op_eq (pv 0) pe_int (nomark _))))) (pss_one (ps_ret (pe_c c__law_sets (hr.mono (by decide)) np (pa_cons (pv 1) (pa_cons (pe_ix ix_list (pe_lst (pa_cons (pe_tup (pa_cons pe_int (pa_cons pe_int pa_nil))) (pa_cons (pv 2) pa_nil))) (pe_op op_fdivB (pv 0) pe_int) (fun _ _ => rfl)) pa_nil))))) pss_nil) (pss_cons (ps_set (i := 3) sc__law_counted.nd rfl (Or.inl rfl) (pe_lst (pa_cons (pe_tup (pa_cons pe_int (pa_cons pe_int pa_nil))) pa_nil))) (pss_cons (ps_forR2 rfl PassesOwn.never T.b_range pe_int (pv 1) (pg_name (i := 4) sc__law_counted.nd rfl (Or.inl rfl)) (pss_one (ps_if (pt_cmpR op_eq (pv 0) pe_int (nomark _)) (pss_one (ps_expr (pe_bm PySem.F.plainAttrs_list PySem.F.slot_list_append PySem.F.type_list_append mt_append (pv 3) (pa_cons (pe_tup (pa_cons (pe_op op_mul (pe_ix ix_fq (pe_ix ix_list (pv 3) (pe_un un_neg pe_int) (fun _ _ => rfl)) pe_int (fun _ _ => rfl)) (pv 4)) (pa_cons pe_int pa_nil))) pa_nil)))) (pss_one (ps_if (pt_cmpR op_eq (pe_op op_mod (pv 4) pe_int) pe_int (nomark _)) (pss_one (ps_expr (pe_bm PySem.F.plainAttrs_list PySem.F.slot_list_append PySem.F.type_list_append mt_append (pv 3) (pa_cons (pe_tup (pa_cons pe_int (pa_cons pe_int pa_nil))) pa_nil)))) (pss_one (ps_expr (pe_bm PySem.F.plainAttrs_list PySem.F.slot_list_append PySem.F.type_list_append mt_append (pv 3) (pa_cons (pe_tup (pa_cons (pe_op op_mul (pe_ix ix_fq (pe_ix ix_list (pv 3) (pe_op op_sub (pv 4) pe_int) (fun _ _ => rfl)) pe_int (fun _ _ => rfl)) (pe_op op_sub (pv 4) pe_int)) (pa_cons pe_int pa_nil))) pa_nil))))))))) (pss_one (ps_ret (pv 3))))))), ?_⟩
    refine tSeq_step fun N hN => ?_
    walk_at "rd"
    split
    · refine ⟨k, f, rfl, hk, by omega, fun S H' xs s n h1 f1 => hq S H' xs s n h1 ?_⟩
      have e : ∀ n, Mt.cF f a n = (((Mt.known f).getD n 0 : Int) : Rat) := fun n => by rw [Mt.cF, if_neg (by omega), if_neg (by omega), Mt.kk, if_neg (by omega)]
      simp only [e]
      exact f1
    rename_i f2
    refine hN _ _ ?_
    clear hN N
    refine tSeq_step fun N hN => ?_
    walk_at "rd"
    have five : ∀ (f' : Nat) (b : Rat) (pb : Addr) (H' : Hp), (f' = 3 ∧ b = 1 ∨ f' = 5 ∧ b = a) → f' = f → Same H H' → Fq K H' pb b → spSets24 K [.int (2 * (k : Int) + 2), .ref pb] H' Q E0 := fun f' b pb H' hb ef s q => by
      subst ef
      have e : ∀ n, Mt.cF f' a n = Mt.tc b n := fun n => by
        rcases hb with ⟨rfl, rfl⟩ | ⟨rfl, rfl⟩
        · rw [Mt.cF, if_pos rfl]
        · rw [Mt.cF, if_neg (by decide), if_pos rfl]
      refine ⟨k, pb, b, rfl, hk, q, ?_, fun S H2 xs s2 n h1 f1 => hq S H2 xs (s.trans s2) (s.free n) h1 ?_⟩
      · rcases hb with ⟨_, rfl⟩ | ⟨_, rfl⟩
        · exact Mt.wg_int (t := 1) (by decide)
        · exact wa
      · simp only [e]
        exact f1
    have dv : CDivB (f : Int) 5 := ⟨by decide, Bd.mono (m := 64) (show (_ : Nat) < _ by decide) (by decide)⟩
    split
    · rename_i f3
      obtain rfl : f = 3 := by omega
      refine ⟨sz_le 2 (by decide), fun p np => ⟨sz_le 2 (by decide), fun p1 np1 => ⟨dv, _, SqL.of upd_same, .ref p, rfl, ?_⟩⟩⟩
      exact five 3 1 p _ (.inl ⟨rfl, rfl⟩) rfl ((same_upd np).trans (same_upd np1)) ((Fq.of (q := 1) upd_same).same (same_upd np1))
    split
    · rename_i f5
      obtain rfl : f = 5 := by omega
      refine ⟨sz_le 2 (by decide), fun p np => ⟨sz_le 2 (by decide), fun p1 np1 => ⟨dv, _, SqL.of upd_same, .ref pa, rfl, ?_⟩⟩⟩
      exact five 5 a pa _ (.inr ⟨rfl, rfl⟩) rfl ((same_upd np).trans (same_upd np1)) (ha.same ((same_upd np).trans (same_upd np1)))
    rename_i f3 f5
    refine hN _ _ ?_
    clear hN N five dv
    refine tSeq_step fun N hN => ?_
    walk_at "rd"
    refine ⟨sz_le 2 (by decide), fun p1 n1 => ⟨sz_le 1 (by decide), fun FO nF => hN _ _ ?_⟩⟩
    clear hN N
    have u1 := same_upd (o := .tup [.int 1, .int 1]) n1
    have q1 : Fq K (upd H p1 (.tup [.int 1, .int 1])) p1 1 := Fq.of upd_same
    generalize upd H p1 (.tup [.int 1, .int 1]) = H1 at u1 q1 nF ⊢
    have u2 := same_upd (o := .lst [.ref p1]) nF
    have hF : upd H1 FO (.lst [.ref p1]) FO = some (.lst [.ref p1]) := upd_same
    generalize upd H1 FO (.lst [.ref p1]) = H2 at u2 hF ⊢
    replace q1 := q1.same u2
    have nF0 : H FO = none := u1.free nF
    have sA := u1.trans u2
    generalize hm : 2 * k + 2 = m
    have em : (2 * (k : Int) + 2) = (m : Int) := by omega
    have hm16 : m ≤ 16 := by omega
    obtain ⟨g, eg⟩ : ∃ g : Nat → Int, g = fun n => (Mt.known (Mt.kk f)).getD n 0 := ⟨_, rfl⟩
    have cg : ∀ n, Mt.cF f a n = ((g n : Int) : Rat) := fun n => by rw [Mt.cF, if_neg (by omega), if_neg (by omega), eg]
    have gb : ∀ n, n < 16 → (g n).natAbs ≤ 2 ^ 50 := fun n hn => by rw [eg]; exact Mt.known_bd (Mt.kk f) (by unfold Mt.kk; split <;> omega) n hn
    have g0 : g 0 = 1 := by
      have : f = 2 ∨ f = 4 := by omega
      rw [eg]
      rcases this with rfl | rfl <;> rfl
    have g2 : f = 2 → ∀ n, n < 15 → g (n + 1) = g n * (1 + (n : Int)) := fun z n hn => by
      rw [eg, z, Int.add_comm 1]; exact Mt.fac_is n hn
    have g4 : f ≠ 2 → (∀ n, n < 16 → n % 2 = 1 → g n = 0) ∧ ∀ n, n < 14 → n % 2 = 0 → g (n + 2) = g n * ((n : Int) + 1) := fun z => by
      obtain rfl : f = 4 := by omega
      rw [eg]
      exact ⟨Mt.par_odd, Mt.par_even⟩
    simp only [cg] at hq
    clear cg eg
    rw [em]
    refine tSeq_step fun N hN => ?_
    walk_at "rd"
    refine ⟨by omega, fun i σ H' => ∃ (r4 : Option V) (ys : List V), σ = [some (.int f), some (.int m), some (.ref pa), some (.ref FO), r4] ∧ Same H H' ∧ H' FO = some (.lst ys) ∧ Frs K H' ((List.range (i + 1)).map fun n => ((g n : Int) : Rat)) ys, ⟨none, _, rfl, sA, hF, Frs.cons (by show Fq K H2 p1 ((g 0 : Int) : Rat); rw [g0]; exact q1) Frs.nil⟩, ?_, ?_⟩
    · rintro i σ H5 hi ⟨r4, ys, rfl, s5, hF5, fF⟩
      have ly := fF.len
      rw [List.length_map, List.length_range] at ly
      have hi' : i < 15 := by omega
      have next : ∀ (z : Int) (p : Addr), H5 p = none → g (i + 1) = z → ∃ xs, upd H5 p (.tup [.int z, .int 1]) FO = some (.lst xs) ∧ xs.length < sizeLine ∧ Same H (upd (upd H5 p (.tup [.int z, .int 1])) FO (.lst (xs ++ [.ref p]))) ∧ ∃ xs_1, upd (upd H5 p (.tup [.int z, .int 1])) FO (.lst (xs ++ [.ref p])) FO = some (.lst xs_1) ∧ Frs K (upd (upd H5 p (.tup [.int z, .int 1])) FO (.lst (xs ++ [.ref p]))) ((List.range (i + 1 + 1)).map fun n => ((g n : Int) : Rat)) xs_1 := fun z p np ez => by
        have u := same_upd (o := .tup [.int z, .int 1]) np
        have q : Fq K (upd H5 p (.tup [.int z, .int 1])) p ((z : Int) : Rat) := Fq.of (by rw [frO_int]; exact upd_same)
        refine ⟨ys, u _ _ hF5, small1000 (by omega), (s5.trans u).updL nF0, _, upd_same, ?_⟩
        rw [List.range_succ, List.map_append]
        exact Frs.updL (u _ _ hF5) (Frs.snoc (fF.same u) (by show Fq K _ p ((g (i + 1) : Int) : Rat); rw [ez]; exact q))
      walk_at "rd"
      split
      · rename_i z
        have z2 : f = 2 := by omega
        obtain ⟨pl, el, ql⟩ := fF.at (j := i) (by simp)
        rw [Mt.cf_map_range, if_pos (by omega)] at ql
        have al : atI ys (-1) = some (.ref pl) := atI_end (by rw [show ys.length - 1 = i by omega]; exact el)
        refine ⟨.inl ⟨rfl, _, SqL.of hF5⟩, ys, SqL.of hF5, _, al, pl, rfl, _, ql, .inr ⟨by omega, by omega⟩, sz_le 2 (by decide), fun p np => next _ p np ?_⟩
        rw [Rat.num_intCast]
        exact g2 z2 i hi'
      rename_i z
      have g4' := g4 (by omega)
      split
      · refine ⟨.inl ⟨rfl, _, SqL.of hF5⟩, sz_le 2 (by decide), fun p np => next _ p np ?_⟩
        exact g4'.1 (i + 1) (by omega) (by omega)
      · obtain ⟨j, rfl⟩ : ∃ j, i = j + 1 := ⟨i - 1, by omega⟩
        obtain ⟨pl, el, ql⟩ := fF.at (j := j) (by simp; omega)
        rw [Mt.cf_map_range, if_pos (by omega)] at ql
        have al := atI_nat el
        rw [show ((j : Nat) : Int) = 1 + ((j + 1 : Nat) : Int) - 2 by omega] at al
        refine ⟨.inl ⟨rfl, _, SqL.of hF5⟩, ys, SqL.of hF5, _, al, pl, rfl, _, ql, .inr ⟨by omega, by omega⟩, sz_le 2 (by decide), fun p np => next _ p np ?_⟩
        rw [Rat.num_intCast, show 1 + ((j + 1 : Nat) : Int) - 1 = (j : Int) + 1 by omega]
        exact g4'.2 j (by omega) (by omega)
    · rintro σ H5 ⟨r4, ys, rfl, s5, hF5, fF⟩
      refine hN _ _ ?_
      clear hN N
      walk_at "rd"
      exact hq FO H5 ys s5 nF0 hF5 (by
        have e : m - 1 + 1 = 2 * k + 2 := by omega
        rw [e] at fF
        exact fF)
abbrev s_law : Stmt := top 42
theorem sc_law : FnScope ["_law_script", "_law_c", "_law_k", "_law_family", "_law_a", "_law_s", "_law_numbers", "_law_power", "_law_number", "_law_levels", "_law_downs", "_law_h", "_law_level", "_law_down", "_law_handed", "_law_step", "_law_found"] ["_law_script"] (defScope s_law) := ⟨rfl, rfl, rfl, by decide +kernel, rfl, by decide +kernel, by decide +kernel⟩
theorem fn_law {f : Addr} {fd : FuncData} (F : Fun K "law" "law" s_law f fd) (T : Tx w K mg C_NOUGHT C_NoFraction C_NoMoments C_ONE C_TooFar) (c__law_add : Callee P w K mg base 3 "_law_add" ["_law_a", "_law_b"] (spBin K (fun a b => a + b))) (c__law_counted : Callee P w K mg base 5 "_law_counted" ["_law_family", "_law_many", "_law_a"] (spCnt24 K)) (c__law_drawn : Callee P w K mg base 2 "_law_drawn" ["_law_script", "_law_k"] (spDrawn K)) (c__law_low : Callee P w K mg base 2 "_law_low" ["_law_top", "_law_bottom"] (spLow)) (c__law_mul : Callee P w K mg base 3 "_law_mul" ["_law_a", "_law_b"] (spBin K (fun a b => a * b))) (c__law_told_weights : Callee P w K mg base 3 "_law_told_weights" ["_law_found"] (spTldW K)) (c_weights_back : Callee P w K mg base 6 "weights_back" ["moments"] (spBack K)) : FnOk P w K mg base (CXe P w) 7 f fd ["_law_script"] (spLaw K) := by
  refine F.okE sc_law (fun vs H Q E h => ?_) (fun cdv A outer s H vs Q E hr h => ?_)
  · obtain ⟨_, _, rfl, _⟩ := h
    rfl
  · obtain ⟨sa, ns, rfl, hs, hlen, hq⟩ := h
    refine ⟨_, (pss_cons (ps_set (i := 1) sc_law.nd rfl (Or.inl rfl) (pe_c c__law_drawn (hr.mono (by decide)) np (pa_cons (pv 0) (pa_cons pe_int pa_nil)))) (pss_cons (ps_set (i := 2) sc_law.nd rfl (Or.inl rfl) (pe_op op_mod (pv 1) pe_int)) (pss_cons (ps_set (i := 3) sc_law.nd rfl (Or.inl rfl) (pe_op op_mod (pe_op op_fdivB (pv 1) pe_int) pe_int)) (pss_cons (ps_set (i := 4) sc_law.nd rfl (Or.inl rfl) (pe_c c__law_low (hr.mono (by decide)) np (pa_cons (pe_op op_add pe_int (pe_op op_mod (pe_op op_fdivB (pv 1) pe_int) pe_int)) (pa_cons (pe_op op_add pe_int (pe_op op_mod (pe_op op_fdivB (pv 1) pe_int) pe_int)) pa_nil)))) (pss_cons (ps_set (i := 5) sc_law.nd rfl (Or.inl rfl) (pe_c c__law_low (hr.mono (by decide)) np (pa_cons (pe_op op_add pe_int (pe_op op_mod (pe_op op_fdivB (pv 1) pe_int) pe_int)) (pa_cons (pe_op op_add pe_int (pe_op op_mod (pe_op op_fdivB (pv 1) pe_int) pe_int)) pa_nil)))) (pss_cons (ps_if (pt_cmpR op_eq (pe_op op_mod (pe_op op_fdivB (pv 1) pe_int) pe_int) pe_int (nomark _)) (pss_one (ps_set (i := 5) sc_law.nd rfl (Or.inl rfl) (pe_tup (pa_cons (pe_un un_neg (pe_ix ix_fq (pv 5) pe_int (fun _ _ => rfl))) (pa_cons (pe_ix ix_fq (pv 5) pe_int (fun _ _ => rfl)) pa_nil))))) pss_nil) (pss_cons (ps_set (i := 6) sc_law.nd rfl (Or.inl rfl) (pe_lst pa_nil)) (pss_cons (ps_set (i := 7) sc_law.nd rfl (Or.inl rfl) (pe_tup (pa_cons pe_int (pa_cons pe_int pa_nil)))) (pss_cons (ps_forL rfl PassesOwn.never (pe_c c__law_counted (hr.mono (by decide)) np (pa_cons (pv 3) (pa_cons (pe_op op_add (pe_op op_mul pe_int (pv 2)) pe_int) (pa_cons (pv 4) pa_nil)))) (pg_name (i := 8) sc_law.nd rfl (Or.inl rfl)) (pss_cons (ps_expr (pe_bm PySem.F.plainAttrs_list PySem.F.slot_list_append PySem.F.type_list_append mt_append (pv 6) (pa_cons (pe_c c__law_mul (hr.mono (by decide)) np (pa_cons (pv 8) (pa_cons (pv 7) pa_nil))) pa_nil))) (pss_one (ps_set (i := 7) sc_law.nd rfl (Or.inl rfl) (pe_c c__law_mul (hr.mono (by decide)) np (pa_cons (pv 7) (pa_cons (pv 5) pa_nil))))))) (pss_cons (ps_set (i := 9) sc_law.nd rfl (Or.inl rfl) (pe_lst pa_nil)) (pss_cons (ps_set (i := 10) sc_law.nd rfl (Or.inl rfl) (pe_lst pa_nil)) (pss_cons (ps_forR rfl PassesOwn.never T.b_range (pe_op op_add (pv 2) pe_int) (pg_name (i := 11) sc_law.nd rfl (Or.inl rfl)) (pss_cons (ps_set (i := 12) sc_law.nd rfl (Or.inl rfl) (pe_ix ix_list (pe_lst (pa_cons (pe_tup (pa_cons pe_int (pa_cons pe_int pa_nil))) (pa_cons (pe_tup (pa_cons pe_int (pa_cons pe_int pa_nil))) (pa_cons (pe_tup (pa_cons (pe_op op_add (pe_op op_mul pe_int (pv 11)) pe_int) (pa_cons pe_int pa_nil))) (pa_cons (pe_tup (pa_cons (pe_op op_add (pv 11) pe_int) (pa_cons pe_int pa_nil))) (pa_cons (pe_tup (pa_cons pe_int (pa_cons pe_int pa_nil))) (pa_cons (pe_c c__law_add (hr.mono (by decide)) np (pa_cons (pe_tup (pa_cons (pv 11) (pa_cons pe_int pa_nil))) (pa_cons (pv 4) pa_nil))) pa_nil))))))) (pv 3) (fun _ _ => rfl))) (pss_one (ps_expr (pe_bm PySem.F.plainAttrs_list PySem.F.slot_list_append PySem.F.type_list_append mt_append (pv 9) (pa_cons (pe_c c__law_mul (hr.mono (by decide)) np (pa_cons (pv 12) (pa_cons (pv 5) pa_nil))) pa_nil)))))) (pss_cons (ps_forR2 rfl PassesOwn.never T.b_range pe_int (pe_op op_add (pv 2) pe_int) (pg_name (i := 11) sc_law.nd rfl (Or.inl rfl)) (pss_cons (ps_set (i := 13) sc_law.nd rfl (Or.inl rfl) (pe_ix ix_list (pe_lst (pa_cons (pe_tup (pa_cons pe_int (pa_cons pe_int pa_nil))) (pa_cons (pe_tup (pa_cons pe_int (pa_cons pe_int pa_nil))) (pa_cons (pe_tup (pa_cons (pe_op op_mul (pv 11) (pv 11)) (pa_cons pe_int pa_nil))) (pa_cons (pe_tup (pa_cons (pv 11) (pa_cons pe_int pa_nil))) (pa_cons (pe_tup (pa_cons (pv 11) (pa_cons pe_int pa_nil))) (pa_cons (pe_c c__law_mul (hr.mono (by decide)) np (pa_cons (pe_tup (pa_cons (pv 11) (pa_cons pe_int pa_nil))) (pa_cons (pv 4) pa_nil))) pa_nil))))))) (pv 3) (fun _ _ => rfl))) (pss_one (ps_expr (pe_bm PySem.F.plainAttrs_list PySem.F.slot_list_append PySem.F.type_list_append mt_append (pv 10) (pa_cons (pe_c c__law_mul (hr.mono (by decide)) np (pa_cons (pv 13) (pa_cons (pe_c c__law_mul (hr.mono (by decide)) np (pa_cons (pv 5) (pa_cons (pv 5) pa_nil))) pa_nil))) pa_nil)))))) (pss_cons (ps_set (i := 14) sc_law.nd rfl (Or.inl rfl) (pe_callTy call_list_of (by rfl) T.b_list (by decide +kernel) (pa_cons (pv 6) pa_nil))) (pss_cons (ps_forR rfl PassesOwn.never T.b_range pe_int (pg_name (i := 15) sc_law.nd rfl (Or.inl rfl)) (pss_cons (ps_set (i := 16) sc_law.nd rfl (Or.inl rfl) (pe_c c_weights_back (hr.mono (by decide)) np (pa_cons (pv 14) pa_nil))) (pss_one (ps_if (PW.pt (pw_or (pt_not (pt_val (pe_c c__law_told_weights (hr.mono (by decide)) np (pa_cons (pv 16) pa_nil)))) (pw_or (pt_cmpR (op_neD hr.units) (pe_ix ix_tup (pv 16) pe_int (fun _ _ => rfl)) (pe_callTy call_tuple_of (by rfl) T.b_tuple (by decide +kernel) (pa_cons (pv 9) pa_nil)) (nomark _)) (pw_or1 (pt_cmpR (op_neD hr.units) (pe_ix ix_tup (pv 16) pe_int (fun _ _ => rfl)) (pe_callTy call_tuple_of (by rfl) T.b_tuple (by decide +kernel) (pa_cons (pv 10) pa_nil)) (nomark _)))))) (pss_one (ps_ret pe_bl)) pss_nil)))) (pss_one (ps_ret (pe_cmpR (op_eqD hr.units) (pv 14) (pv 6) (nomark _))))))))))))))))))), ?_⟩
    refine tSeq_step fun N hN => ?_
    walk_at "rd"
    have dv : ∀ i j : Int, 0 < j → j ≤ 5000000 → CDivB i j := fun i j h1 h2 => ⟨by omega, Bd.mono (m := 64) (show (_ : Nat) < _ by omega) (by decide)⟩
    refine ⟨sa, ns, 0, rfl, hs, by omega, by omega, fun c c0 c1 => hN _ _ ?_⟩
    clear hN N
    refine tSeq_step fun N hN => ?_
    walk_at "rd"
    refine hN _ _ ?_
    clear hN N
    refine tSeq_step fun N hN => ?_
    walk_at "rd"
    refine ⟨dv _ _ (by decide) (by decide), hN _ _ ?_⟩
    clear hN N
    refine tSeq_step fun N hN => ?_
    walk_at "rd"
    have cm : ∀ q : Int, 0 ≤ q → ∃ n : Nat, q = (n : Int) := fun q h => ⟨q.toNat, by omega⟩
    obtain ⟨k, ek⟩ := cm (c % 8) (by omega)
    obtain ⟨f, ef⟩ := cm (c.fdiv 8 % 6) (by omega)
    obtain ⟨pn, epn⟩ := cm (1 + c.fdiv 48 % 9) (by omega)
    obtain ⟨qn, eqn⟩ := cm (1 + c.fdiv 432 % 5) (by omega)
    have hk : k < 8 := by omega
    have hf : f < 6 := by omega
    have hpn : 1 ≤ pn ∧ pn ≤ 9 := by omega
    have hqn : 1 ≤ qn ∧ qn ≤ 5 := by omega
    rw [ek, ef, epn, eqn]
    clear ek ef epn eqn
    refine ⟨dv _ _ (by decide) (by decide), dv _ _ (by decide) (by decide), _, _, rfl, by omega, Bd.mono (m := 64) (show (_ : Nat) < _ by omega) (by decide), fun pa na => hN _ _ ?_⟩
    clear hN N
    have aq : Rat.divInt (pn : Int) (qn : Int) * (((qn : Nat) : Int) : Rat) = (((pn : Nat) : Int) : Rat) := Mt.low_back (by omega)
    have la : Mt.Lat 60 540 (Rat.divInt (pn : Int) (qn : Int)) := (Mt.lat60 (N := 9) (by omega) (by omega) (by omega))
    have a0 : Rat.divInt (pn : Int) (qn : Int) ≠ 0 := fun z => by
      rw [z, Rat.zero_mul] at aq
      have : (pn : Int) = 0 := by exact_mod_cast aq.symm
      omega
    have u1 := same_upd (o := frO (Rat.divInt (pn : Int) (qn : Int))) na
    have qa : Fq K (upd H pa (frO (Rat.divInt (pn : Int) (qn : Int)))) pa (Rat.divInt (pn : Int) (qn : Int)) := Fq.of upd_same
    generalize upd H pa (frO (Rat.divInt (pn : Int) (qn : Int))) = H1 at u1 qa ⊢
    generalize Rat.divInt (pn : Int) (qn : Int) = a at aq la a0 qa
    have wa : Mt.Wg a := Mt.lat60_wg (N := 9) la (by decide)
    refine tSeq_step fun N hN => ?_
    walk_at "rd"
    obtain ⟨sn, esn⟩ := cm (1 + c.fdiv 2160 % 7) (by omega)
    obtain ⟨tn, etn⟩ := cm (1 + c.fdiv 15120 % 6) (by omega)
    have hsn : 1 ≤ sn ∧ sn ≤ 7 := by omega
    have htn : 1 ≤ tn ∧ tn ≤ 6 := by omega
    rw [esn, etn]
    clear esn etn cm
    refine ⟨dv _ _ (by decide) (by decide), dv _ _ (by decide) (by decide), _, _, rfl, by omega, Bd.mono (m := 64) (show (_ : Nat) < _ by omega) (by decide), fun ps nps => hN _ _ ?_⟩
    clear hN N
    have sq : Rat.divInt (sn : Int) (tn : Int) * (((tn : Nat) : Int) : Rat) = (((sn : Nat) : Int) : Rat) := Mt.low_back (by omega)
    have ls : Mt.Lat 60 420 (Rat.divInt (sn : Int) (tn : Int)) := (Mt.lat60 (N := 7) (by omega) (by omega) (by omega))
    have s0 : Rat.divInt (sn : Int) (tn : Int) ≠ 0 := fun z => by
      rw [z, Rat.zero_mul] at sq
      have : (sn : Int) = 0 := by exact_mod_cast sq.symm
      omega
    have u2 := same_upd (o := frO (Rat.divInt (sn : Int) (tn : Int))) nps
    have qs : Fq K (upd H1 ps (frO (Rat.divInt (sn : Int) (tn : Int)))) ps (Rat.divInt (sn : Int) (tn : Int)) := Fq.of upd_same
    generalize upd H1 ps (frO (Rat.divInt (sn : Int) (tn : Int))) = H2 at u2 qs ⊢
    generalize Rat.divInt (sn : Int) (tn : Int) = s1 at sq ls s0 qs
    replace qa := qa.same u2
    clear sq
    refine tSeq_step fun N hN => ?_
    have fin : ∀ (ps : Addr) (s : Rat) (H3 : Hp), Same H H3 → Fq K H3 pa a → Fq K H3 ps s → Mt.Lat 60 420 s → s ≠ 0 → N [some (.ref sa), some (.int c), some (.int k), some (.int f), some (.ref pa), some (.ref ps), none, none, none, none, none, none, none, none, none, none, none] H3 := by
      intro ps s H3 s3 qa qs ls s0
      refine hN _ _ ?_
      clear hN N
      refine tSeq_step fun N hN => ?_
      walk_at "rd"
      refine fun NU nN => hN _ _ ?_
      clear hN N
      have v1 := same_upd (o := .lst []) nN
      have hN0 : upd H3 NU (.lst []) NU = some (.lst []) := upd_same
      generalize upd H3 NU (.lst []) = H4 at v1 hN0 ⊢
      refine tSeq_step fun N hN => ?_
      walk_at "rd"
      refine ⟨sz_le 2 (by decide), fun p4 n4 => hN _ _ ?_⟩
      clear hN N
      have v2 := same_upd (o := .tup [.int 1, .int 1]) n4
      have q4 : Fq K (upd H4 p4 (.tup [.int 1, .int 1])) p4 1 := Fq.of upd_same
      generalize upd H4 p4 (.tup [.int 1, .int 1]) = H5 at v2 q4 ⊢
      have s5 := (s3.trans v1).trans v2
      have hN5 := v2 _ _ hN0
      have nN0 : H NU = none := s3.free nN
      have v12 := v1.trans v2
      have qa5 := qa.same v12
      have qs5 := qs.same v12
      have ws : Mt.Wg s := Mt.lat60_wg (N := 7) ls (by decide)
      refine tSeq_step fun N hN => ?_
      walk_at "rd"
      have sP : ∀ n, n ≤ 20 → Sz 1300 (Mt.pk s n) := fun n hn => gd_sz (Mt.gd_pk ws n) (by omega)
      have sC : ∀ n, n < 16 → Sz 1300 (Mt.cF f a n) := fun n hn => (lat_sz (m := 1290) (Mt.cF_lat hf wa hn) (Nat.pow_pos (by decide)) (by decide +kernel) (by decide +kernel)).mono (by decide)
      obtain ⟨g, eg⟩ : ∃ g : Nat → Rat, g = fun n => Mt.cF f a n * Mt.pk s n := ⟨_, rfl⟩
      refine ⟨.inl ⟨by decide, by decide⟩, f, k, pa, a, rfl, hf, hk, qa5, wa, fun CT H6 cs s6 nC hC fC => ⟨CT, rfl, cs, SqL.of hC, ?_⟩⟩
      have lc := fC.len
      rw [List.length_map, List.length_range] at lc
      have nNC : NU ≠ CT := fun z => by rw [← z, hN5] at nC; cases nC
      refine ⟨fun i σ H' => ∃ (pp : Addr) (r8 : Option V) (zs : List V), σ = [some (.ref sa), some (.int c), some (.int k), some (.int f), some (.ref pa), some (.ref ps), some (.ref NU), some (.ref pp), r8, none, none, none, none, none, none, none, none] ∧ Same H H' ∧ H' CT = some (.lst cs) ∧ Frs K H' ((List.range (2 * k + 2)).map fun n => Mt.cF f a n) cs ∧ H' NU = some (.lst zs) ∧ Frs K H' ((List.range i).map g) zs ∧ Fq K H' pp (Mt.pk s i) ∧ Fq K H' ps s ∧ Fq K H' pa a, ⟨p4, none, [], rfl, s5.trans s6, hC, fC, s6 _ _ hN5, Frs.nil, q4.same s6, qs5.same s6, qa5.same s6⟩, ?_, ?_, ?_⟩
      · rintro i σ H7 hi ⟨pp, r8, zs, rfl, s7, hC7, fC7, hN7, fN7, qp, qs7, qa7⟩
        exact SqL.of hC7
      · rintro i x σ H7 hx ⟨pp, r8, zs, rfl, s7, hC7, fC7, hN7, fN7, qp, qs7, qa7⟩
        have hi : i < cs.length := (List.getElem?_eq_some_iff.mp hx).1
        obtain ⟨pc, ec, qc⟩ := fC7.at (j := i) (by simp; omega)
        cases ec.symm.trans hx
        rw [Mt.cf_map_range, if_pos (by omega)] at qc
        have lz := fN7.len
        rw [List.length_map, List.length_range] at lz
        refine tSeq_step fun N hN => ?_
        walk_at "rd"
        refine ⟨.inl ⟨rfl, _, SqL.of hN7⟩, pc, pp, _, _, rfl, qc, qp, (sC i (by omega)).mono (by decide), (sP i (by omega)).mono (by decide), fun r1 H8 s8 n8 h8 => ⟨zs, s8 _ _ hN7, small1000 (by omega), hN _ _ ?_⟩⟩
        clear hN N
        have hN8 := s8 _ _ hN7
        have q1 : Fq K H8 r1 (g i) := by rw [eg]; exact Fq.of h8
        have s9 : Same H (upd H8 NU (.lst (zs ++ [.ref r1]))) := (s7.trans s8).updL nN0
        have hC9 : upd H8 NU (.lst (zs ++ [.ref r1])) CT = some (.lst cs) := by rw [upd_ne (Ne.symm nNC)]; exact s8 _ _ hC7
        have fC9 : Frs K (upd H8 NU (.lst (zs ++ [.ref r1]))) ((List.range (2 * k + 2)).map fun n => Mt.cF f a n) cs := Frs.updL hN8 (fC7.same s8)
        have hN9 : upd H8 NU (.lst (zs ++ [.ref r1])) NU = some (.lst (zs ++ [.ref r1])) := upd_same
        have fN9 : Frs K (upd H8 NU (.lst (zs ++ [.ref r1]))) ((List.range (i + 1)).map g) (zs ++ [.ref r1]) := by
          rw [List.range_succ, List.map_append]
          exact Frs.updL hN8 (Frs.snoc (fN7.same s8) q1)
        have qp9 : Fq K (upd H8 NU (.lst (zs ++ [.ref r1]))) pp (Mt.pk s i) := SqT.updL hN8 (qp.same s8)
        have qs9 : Fq K (upd H8 NU (.lst (zs ++ [.ref r1]))) ps s := SqT.updL hN8 (qs7.same s8)
        have qa9 : Fq K (upd H8 NU (.lst (zs ++ [.ref r1]))) pa a := SqT.updL hN8 (qa7.same s8)
        generalize upd H8 NU (.lst (zs ++ [.ref r1])) = H9 at s9 hC9 fC9 hN9 fN9 qp9 qs9 qa9 ⊢
        walk_at "rd"
        refine ⟨pp, ps, _, _, rfl, qp9, qs9, (sP i (by omega)).mono (by decide), (wg_sz ws).mono (by decide), fun r2 H10 s10 n10 h10 => ?_⟩
        exact ⟨r2, rfl, s9.trans s10, s10 _ _ hC9, fC9.same s10, _, s10 _ _ hN9, fN9.same s10, Fq.of h10, qs9.same s10, qa9.same s10⟩
      · rintro σ H7 ⟨pp, r8, zs, rfl, s7, hC7, fC7, hN7, fN7, qp, qs7, qa7⟩
        refine hN _ _ ?_
        rw [← lc] at fN7
        clear hN N hC7 fC7 qp fC hC sP sC nC s6 nNC q4 qa5 qs5 hN5 v12 s5
        refine tSeq_step fun N hN => ?_
        walk_at "rd"
        refine fun LV nL => hN _ _ ?_
        clear hN N
        have v1 := same_upd (o := .lst []) nL
        have hL0 : upd H7 LV (.lst []) LV = some (.lst []) := upd_same
        generalize upd H7 LV (.lst []) = H8 at v1 hL0 ⊢
        refine tSeq_step fun N hN => ?_
        walk_at "rd"
        refine fun DN nD => hN _ _ ?_
        clear hN N
        have v2 := same_upd (o := .lst []) nD
        have hD0 : upd H8 DN (.lst []) DN = some (.lst []) := upd_same
        have nLD : LV ≠ DN := ne_of_none hL0 nD
        generalize upd H8 DN (.lst []) = H9 at v2 hD0 ⊢
        have v12 := v1.trans v2
        have s9 := s7.trans v12
        have nL0 : H LV = none := s7.free nL
        have nD0 : H DN = none := (s7.trans v1).free nD
        have nNL : NU ≠ LV := ne_of_none hN7 nL
        have nND : NU ≠ DN := ne_of_none (v1 _ _ hN7) nD
        have hN9 := v12 _ _ hN7
        have fN9 := fN7.same v12
        have qs9 := qs7.same v12
        have qa9 := qa7.same v12
        have hL9 := v2 _ _ hL0
        clear v1 v2 v12 hL0 hN7 fN7 qs7 qa7 s7 nL nD
        refine tSeq_step fun N hN => ?_
        walk_at "rd"
        have lw : ∀ h, h < 8 → Mt.Wg (Mt.lvF f a h * s) := fun h hh => Mt.wg_lv la ls hh
        have dw : ∀ h, h < 7 → Mt.Wg (Mt.dwF f a h * (s * s)) := fun h hh => Mt.wg_dw la ls hh
        have szl : ∀ h, h < 8 → Sz 100 (Mt.lvF f a h) := fun h hh => lat_sz (m := 100) (Mt.lat60_lv la hh) (by decide) (by decide) (by decide)
        have szd : ∀ h, h < 7 → Sz 100 (Mt.dwF f a h) := fun h hh => lat_sz (m := 100) (Mt.lat60_dw la hh) (by decide) (by decide) (by decide)
        have sza : Sz 100 a := lat_sz (m := 100) la (by decide) (by decide) (by decide)
        have szs : Sz 100 s := lat_sz (m := 100) ls (by decide) (by decide) (by decide)
        have szi : ∀ z : Int, z.natAbs ≤ 1000 → Sz 100 (z : Rat) := fun z hz => Sz.int (show (_ : Nat) < _ by exact Nat.lt_of_le_of_lt hz (by decide)) (by decide)
        refine ⟨by omega, by omega, fun i σ H' => ∃ (r11 r12 : Option V) (us : List V), σ = [some (.ref sa), some (.int c), some (.int k), some (.int f), some (.ref pa), some (.ref ps), some (.ref NU), some (.ref pp), r8, some (.ref LV), some (.ref DN), r11, r12, none, none, none, none] ∧ Same H H' ∧ H' NU = some (.lst zs) ∧ Frs K H' ((List.range (2 * k + 2)).map g) zs ∧ H' LV = some (.lst us) ∧ Frs K H' ((List.range i).map fun h => Mt.lvF f a h * s) us ∧ H' DN = some (.lst []) ∧ Fq K H' ps s ∧ Fq K H' pa a, ⟨none, none, [], rfl, s9, hN9, fN9, hL9, Frs.nil, hD0, qs9, qa9⟩, ?_, ?_⟩
        · rintro h σ G0 hh ⟨r11, r12, us, rfl, t0, hNU, fNU, hLV, fLV, hDN, qs0, qa0⟩
          have lu := fLV.len
          rw [List.length_map, List.length_range] at lu
          have fa := Mt.lvF_at a h
          refine tSeq_step fun N hN => ?_
          walk_at "rd"
          refine ⟨sz_le 2 (by decide), fun q1 n1 => ⟨sz_le 2 (by decide), fun q2 n2 => ⟨.inl ⟨by decide, by decide⟩, sz_le 2 (by decide), fun q3 n3 => ⟨sz_le 2 (by decide), fun q4 n4 => ⟨sz_le 2 (by decide), fun q5 n5 => ⟨sz_le 2 (by decide), fun q6 n6 => ?_⟩⟩⟩⟩⟩⟩
          have t1 := same_upd (o := .tup [.int 0, .int 1]) n1
          have x1 : Fq K (upd G0 q1 (.tup [.int 0, .int 1])) q1 ((0 : Int) : Rat) := Fq.of (by rw [frO_int]; exact upd_same)
          generalize upd G0 q1 (.tup [.int 0, .int 1]) = G1 at t1 x1 n2 n3 n4 n5 n6 ⊢
          have t2 := same_upd (o := .tup [.int 1, .int 1]) n2
          have x2 : Fq K (upd G1 q2 (.tup [.int 1, .int 1])) q2 ((1 : Int) : Rat) := Fq.of (by rw [frO_int]; exact upd_same)
          generalize upd G1 q2 (.tup [.int 1, .int 1]) = G2 at t2 x2 n3 n4 n5 n6 ⊢
          have t3 := same_upd (o := .tup [.int (2 * (h : Int) + 1), .int 1]) n3
          have x3 : Fq K (upd G2 q3 (.tup [.int (2 * (h : Int) + 1), .int 1])) q3 ((2 * (h : Int) + 1 : Int) : Rat) := Fq.of (by rw [frO_int]; exact upd_same)
          generalize upd G2 q3 (.tup [.int (2 * (h : Int) + 1), .int 1]) = G3 at t3 x3 n4 n5 n6 ⊢
          have t4 := same_upd (o := .tup [.int ((h : Int) + 1), .int 1]) n4
          have x4 : Fq K (upd G3 q4 (.tup [.int ((h : Int) + 1), .int 1])) q4 (((h : Int) + 1 : Int) : Rat) := Fq.of (by rw [frO_int]; exact upd_same)
          generalize upd G3 q4 (.tup [.int ((h : Int) + 1), .int 1]) = G4 at t4 x4 n5 n6 ⊢
          have t5 := same_upd (o := .tup [.int 0, .int 1]) n5
          have x5 : Fq K (upd G4 q5 (.tup [.int 0, .int 1])) q5 ((0 : Int) : Rat) := Fq.of (by rw [frO_int]; exact upd_same)
          generalize upd G4 q5 (.tup [.int 0, .int 1]) = G5 at t5 x5 n6 ⊢
          have t6 := same_upd (o := .tup [.int (h : Int), .int 1]) n6
          have x6 : Fq K (upd G5 q6 (.tup [.int (h : Int), .int 1])) q6 ((h : Int) : Rat) := Fq.of (by rw [frO_int]; exact upd_same)
          generalize upd G5 q6 (.tup [.int (h : Int), .int 1]) = G6 at t6 x6 ⊢
          replace x5 := x5.same t6
          replace x4 := x4.same (t5.trans t6)
          replace x3 := x3.same (t4.trans (t5.trans t6))
          replace x2 := x2.same (t3.trans (t4.trans (t5.trans t6)))
          replace x1 := x1.same (t2.trans (t3.trans (t4.trans (t5.trans t6))))
          have tA := t1.trans (t2.trans (t3.trans (t4.trans (t5.trans t6))))
          clear t1 t2 t3 t4 t5 t6 n1 n2 n3 n4 n5 n6
          refine ⟨q6, pa, _, _, rfl, x6, qa0.same tA, (szi _ (by omega)).mono (by decide), sza.mono (by decide), fun r1 G7 t7 m7 h7 => ⟨sz_le 6 (by decide), fun pl nl => ?_⟩⟩
          have t8 := same_upd (o := .lst [.ref q1, .ref q2, .ref q3, .ref q4, .ref q5, .ref r1]) nl
          have hpl : upd G7 pl (.lst [.ref q1, .ref q2, .ref q3, .ref q4, .ref q5, .ref r1]) pl = some (.lst [.ref q1, .ref q2, .ref q3, .ref q4, .ref q5, .ref r1]) := upd_same
          generalize upd G7 pl (.lst [.ref q1, .ref q2, .ref q3, .ref q4, .ref q5, .ref r1]) = G8 at t8 hpl ⊢
          have t78 := t7.trans t8
          have pick : ∃ pv, atI [V.ref q1, .ref q2, .ref q3, .ref q4, .ref q5, .ref r1] (f : Int) = some (.ref pv) ∧ Fq K G8 pv (Mt.lvF f a h) := by
            have : f = 0 ∨ f = 1 ∨ f = 2 ∨ f = 3 ∨ f = 4 ∨ f = 5 := by omega
            rcases this with rfl | rfl | rfl | rfl | rfl | rfl
            · exact ⟨q1, rfl, by rw [fa.1]; exact x1.same t78⟩
            · exact ⟨q2, rfl, by rw [fa.2.1]; exact x2.same t78⟩
            · exact ⟨q3, rfl, by rw [fa.2.2.1]; exact x3.same t78⟩
            · exact ⟨q4, rfl, by rw [fa.2.2.2.1]; exact x4.same t78⟩
            · exact ⟨q5, rfl, by rw [fa.2.2.2.2.1]; exact x5.same t78⟩
            · exact ⟨r1, rfl, by rw [fa.2.2.2.2.2]; exact (Fq.of h7).same t8⟩
          obtain ⟨pv, epv, qv⟩ := pick
          have tB := tA.trans t78
          refine ⟨_, SqL.of hpl, _, epv, hN _ _ ?_⟩
          clear hN N x1 x2 x3 x4 x5 x6 h7 t7 t8 t78 hpl nl epv m7
          have hLV8 := tB _ _ hLV
          walk_at "rd"
          refine ⟨.inl ⟨rfl, _, SqL.of hLV8⟩, pv, ps, _, _, rfl, qv, qs0.same tB, (szl h (by omega)).mono (by decide), szs.mono (by decide), fun r2 G9 t9 m9 h9 => ⟨us, t9 _ _ hLV8, small1000 (by omega), ?_⟩⟩
          have tC := tB.trans t9
          have hLV9 := t9 _ _ hLV8
          refine ⟨(t0.trans tC).updL nL0, by rw [upd_ne nNL]; exact tC _ _ hNU, Frs.updL hLV9 (fNU.same tC), _, upd_same, ?_, by rw [upd_ne (Ne.symm nLD)]; exact tC _ _ hDN, SqT.updL hLV9 (qs0.same tC), SqT.updL hLV9 (qa0.same tC)⟩
          rw [List.range_succ, List.map_append]
          exact Frs.updL hLV9 (Frs.snoc (fLV.same tC) (Fq.of h9))
        · rintro σ G0 ⟨r11, r12, us, rfl, t0, hNU, fNU, hLV, fLV, hDN, qs0, qa0⟩
          refine hN _ _ ?_
          clear hN N s9 hN9 fN9 qs9 qa9 hL9 hD0
          refine tSeq_step fun N hN => ?_
          walk_at "rd"
          rw [show (fun h => Mt.lvF f a h * s) = fun h => Mt.lvF f a h * s from rfl] at fLV
          have eL : ((List.range (k + 1)).map fun h => Mt.lvF f a h * s) = Mt.lvL f a s k := rfl
          rw [eL] at fLV
          refine ⟨⟨by omega, by omega⟩, fun j σ H' => ∃ (r11 r12 r13 : Option V) (vs : List V), σ = [some (.ref sa), some (.int c), some (.int k), some (.int f), some (.ref pa), some (.ref ps), some (.ref NU), some (.ref pp), r8, some (.ref LV), some (.ref DN), r11, r12, r13, none, none, none] ∧ Same H H' ∧ H' NU = some (.lst zs) ∧ Frs K H' ((List.range (2 * k + 2)).map g) zs ∧ H' LV = some (.lst us) ∧ Frs K H' (Mt.lvL f a s k) us ∧ H' DN = some (.lst vs) ∧ Frs K H' ((List.range j).map fun h => Mt.dwF f a h * (s * s)) vs ∧ Fq K H' ps s ∧ Fq K H' pa a, ⟨r11, r12, none, [], rfl, t0, hNU, fNU, hLV, fLV, hDN, Frs.nil, qs0, qa0⟩, ?_, ?_⟩
          · rintro j σ G0 hj ⟨r11, r12, r13, vs, rfl, t0, hNU, fNU, hLV, fLV, hDN, fDN, qs0, qa0⟩
            have lv := fDN.len
            rw [List.length_map, List.length_range] at lv
            have fa := Mt.dwF_at a j
            have ej : 1 + (j : Int) = (j : Int) + 1 := by omega
            refine tSeq_step fun N hN => ?_
            walk_at "rd"
            rw [ej]
            refine ⟨sz_le 2 (by decide), fun q1 n1 => ⟨sz_le 2 (by decide), fun q2 n2 => ⟨.inl ⟨by omega, by omega⟩, sz_le 2 (by decide), fun q3 n3 => ⟨sz_le 2 (by decide), fun q4 n4 => ⟨sz_le 2 (by decide), fun q5 n5 => ⟨sz_le 2 (by decide), fun q6 n6 => ?_⟩⟩⟩⟩⟩⟩
            have t1 := same_upd (o := .tup [.int 1, .int 1]) n1
            have x1 : Fq K (upd G0 q1 (.tup [.int 1, .int 1])) q1 ((1 : Int) : Rat) := Fq.of (by rw [frO_int]; exact upd_same)
            generalize upd G0 q1 (.tup [.int 1, .int 1]) = G1 at t1 x1 n2 n3 n4 n5 n6 ⊢
            have t2 := same_upd (o := .tup [.int 1, .int 1]) n2
            have x2 : Fq K (upd G1 q2 (.tup [.int 1, .int 1])) q2 ((1 : Int) : Rat) := Fq.of (by rw [frO_int]; exact upd_same)
            generalize upd G1 q2 (.tup [.int 1, .int 1]) = G2 at t2 x2 n3 n4 n5 n6 ⊢
            have t3 := same_upd (o := .tup [.int (((j : Int) + 1) * ((j : Int) + 1)), .int 1]) n3
            have x3 : Fq K (upd G2 q3 (.tup [.int (((j : Int) + 1) * ((j : Int) + 1)), .int 1])) q3 ((((j : Int) + 1) * ((j : Int) + 1) : Int) : Rat) := Fq.of (by rw [frO_int]; exact upd_same)
            generalize upd G2 q3 (.tup [.int (((j : Int) + 1) * ((j : Int) + 1)), .int 1]) = G3 at t3 x3 n4 n5 n6 ⊢
            have t4 := same_upd (o := .tup [.int ((j : Int) + 1), .int 1]) n4
            have x4 : Fq K (upd G3 q4 (.tup [.int ((j : Int) + 1), .int 1])) q4 (((j : Int) + 1 : Int) : Rat) := Fq.of (by rw [frO_int]; exact upd_same)
            generalize upd G3 q4 (.tup [.int ((j : Int) + 1), .int 1]) = G4 at t4 x4 n5 n6 ⊢
            have t5 := same_upd (o := .tup [.int ((j : Int) + 1), .int 1]) n5
            have x5 : Fq K (upd G4 q5 (.tup [.int ((j : Int) + 1), .int 1])) q5 (((j : Int) + 1 : Int) : Rat) := Fq.of (by rw [frO_int]; exact upd_same)
            generalize upd G4 q5 (.tup [.int ((j : Int) + 1), .int 1]) = G5 at t5 x5 n6 ⊢
            have t6 := same_upd (o := .tup [.int ((j : Int) + 1), .int 1]) n6
            have x6 : Fq K (upd G5 q6 (.tup [.int ((j : Int) + 1), .int 1])) q6 (((j : Int) + 1 : Int) : Rat) := Fq.of (by rw [frO_int]; exact upd_same)
            generalize upd G5 q6 (.tup [.int ((j : Int) + 1), .int 1]) = G6 at t6 x6 ⊢
            replace x5 := x5.same t6
            replace x4 := x4.same (t5.trans t6)
            replace x3 := x3.same (t4.trans (t5.trans t6))
            replace x2 := x2.same (t3.trans (t4.trans (t5.trans t6)))
            replace x1 := x1.same (t2.trans (t3.trans (t4.trans (t5.trans t6))))
            have tA := t1.trans (t2.trans (t3.trans (t4.trans (t5.trans t6))))
            clear t1 t2 t3 t4 t5 t6 n1 n2 n3 n4 n5 n6
            refine ⟨q6, pa, _, _, rfl, x6, qa0.same tA, (szi _ (by omega)).mono (by decide), sza.mono (by decide), fun r1 G7 t7 m7 h7 => ⟨sz_le 6 (by decide), fun pl nl => ?_⟩⟩
            have t8 := same_upd (o := .lst [.ref q1, .ref q2, .ref q3, .ref q4, .ref q5, .ref r1]) nl
            have hpl : upd G7 pl (.lst [.ref q1, .ref q2, .ref q3, .ref q4, .ref q5, .ref r1]) pl = some (.lst [.ref q1, .ref q2, .ref q3, .ref q4, .ref q5, .ref r1]) := upd_same
            generalize upd G7 pl (.lst [.ref q1, .ref q2, .ref q3, .ref q4, .ref q5, .ref r1]) = G8 at t8 hpl ⊢
            have t78 := t7.trans t8
            have pick : ∃ pv, atI [V.ref q1, .ref q2, .ref q3, .ref q4, .ref q5, .ref r1] (f : Int) = some (.ref pv) ∧ Fq K G8 pv (Mt.dwF f a j) := by
              have : f = 0 ∨ f = 1 ∨ f = 2 ∨ f = 3 ∨ f = 4 ∨ f = 5 := by omega
              rcases this with rfl | rfl | rfl | rfl | rfl | rfl
              · exact ⟨q1, rfl, by rw [fa.1]; exact x1.same t78⟩
              · exact ⟨q2, rfl, by rw [fa.2.1]; exact x2.same t78⟩
              · exact ⟨q3, rfl, by rw [fa.2.2.1]; exact x3.same t78⟩
              · exact ⟨q4, rfl, by rw [fa.2.2.2.1]; exact x4.same t78⟩
              · exact ⟨q5, rfl, by rw [fa.2.2.2.2.1]; exact x5.same t78⟩
              · exact ⟨r1, rfl, by rw [fa.2.2.2.2.2]; exact (Fq.of h7).same t8⟩
            obtain ⟨pv, epv, qv⟩ := pick
            have tB := tA.trans t78
            refine ⟨_, SqL.of hpl, _, epv, hN _ _ ?_⟩
            clear hN N x1 x2 x3 x4 x5 x6 h7 t7 t8 t78 hpl nl epv m7
            have hDN8 := tB _ _ hDN
            walk_at "rd"
            refine ⟨.inl ⟨rfl, _, SqL.of hDN8⟩, ps, ps, _, _, rfl, qs0.same tB, qs0.same tB, szs.mono (by decide), szs.mono (by decide), fun r2 G9 t9 m9 h9 => ⟨pv, r2, _, _, rfl, qv.same t9, Fq.of h9, (szd j (by omega)).mono (by decide), (szs.mul szs).mono (by decide), fun r3 G10 t10 m10 h10 => ⟨vs, t10 _ _ (t9 _ _ hDN8), small1000 (by omega), ?_⟩⟩⟩
            have tC := tB.trans (t9.trans t10)
            have hDN9 := t10 _ _ (t9 _ _ hDN8)
            refine ⟨(t0.trans tC).updL nD0, by rw [upd_ne nND]; exact tC _ _ hNU, Frs.updL hDN9 (fNU.same tC), by rw [upd_ne nLD]; exact tC _ _ hLV, Frs.updL hDN9 (fLV.same tC), _, upd_same, ?_, SqT.updL hDN9 (qs0.same tC), SqT.updL hDN9 (qa0.same tC)⟩
            rw [List.range_succ, List.map_append]
            exact Frs.updL hDN9 (Frs.snoc (fDN.same tC) (Fq.of h10))
          · rintro σ G0 ⟨r11, r12, r13, vs, rfl, t0, hNU, fNU, hLV, fLV, hDN, fDN, qs0, qa0⟩
            refine hN _ _ ?_
            clear hN N szl szd sza szs szi
            have eD : ((List.range k).map fun h => Mt.dwF f a h * (s * s)) = Mt.dwL f a s k := rfl
            rw [eD] at fDN
            have lL := Mt.lvL_len f a s k
            have lD := Mt.dwL_len f a s k
            have eM : momL (Mt.lvL f a s k) (Mt.dwL f a s k) = (List.range (2 * k + 2)).map g := by
              rw [momL, lD]
              refine List.map_congr_left fun n hn => ?_
              rw [Mt.known_sm hf (by omega) (by omega) (by omega) hk (List.mem_range.mp hn) aq, eg]
            have wss : Ws (Mt.lvL f a s k) (Mt.dwL f a s k) := ⟨fun q hq' => by
              obtain ⟨h, hh, rfl⟩ := List.mem_map.mp hq'
              exact lw h (by have := List.mem_range.mp hh; omega), fun q hq' => by
              obtain ⟨h, hh, rfl⟩ := List.mem_map.mp hq'
              exact dw h (by have := List.mem_range.mp hh; omega), by omega, by omega⟩
            have dnz : ∀ h, h < k → Mt.cf (Mt.dwL f a s k) h ≠ 0 := fun h hh => by
              rw [Mt.dwL, Mt.cf_map_range, if_pos hh]
              exact Mt.dw_ne a0 s0
            rw [← eM] at fNU
            clear eM eg lw dw
            have dp : 1 ≤ (lstD (momL (Mt.lvL f a s k) (Mt.dwL f a s k))).dep ∧ (lstD (momL (Mt.lvL f a s k) (Mt.dwL f a s k))).dep ≤ 60 := by
              have z1 := frDs_dep (momL (Mt.lvL f a s k) (Mt.dwL f a s k))
              simp only [lstD, Dt.dep]
              omega
            refine tSeq_step fun N hN => ?_
            walk_at "rd"
            refine ⟨zs, .inl (SqL.of hNU), fun HA nH => hN _ _ ?_⟩
            clear hN N
            have uH := same_upd (o := .lst zs) nH
            have hHA : upd G0 HA (.lst zs) HA = some (.lst zs) := upd_same
            generalize upd G0 HA (.lst zs) = G1 at uH hHA ⊢
            have t1 := t0.trans uH
            replace hNU := uH _ _ hNU
            replace fNU := fNU.same uH
            replace hLV := uH _ _ hLV
            replace fLV := fLV.same uH
            replace hDN := uH _ _ hDN
            replace fDN := fDN.same uH
            generalize Mt.lvL f a s k = L at *
            generalize Mt.dwL f a s k = D at *
            refine tSeq_step fun N hN => ?_
            walk_at "rd"
            refine ⟨fun i σ H' => ∃ (r15 r16 : Option V), σ = [some (.ref sa), some (.int c), some (.int k), some (.int f), some (.ref pa), some (.ref ps), some (.ref NU), some (.ref pp), r8, some (.ref LV), some (.ref DN), r11, r12, r13, some (.ref HA), r15, r16] ∧ Same G1 H', ⟨none, none, rfl, Same.refl _⟩, ?_, ?_⟩
            · rintro i σ G2 hi ⟨r15, r16, rfl, t2⟩
              refine tSeq_step fun N hN => ?_
              walk_at "rd"
              refine ⟨HA, zs, L, D, rfl, SqL.of (t2 _ _ hHA), fNU.same t2, wss, fun nz r ra rb G3 t3 hr3 pa3 pb3 => hN _ _ ?_, fun h0 hh zz => absurd zz (dnz h0 (by omega))⟩
              clear hN N
              have t23 := t2.trans t3
              walk_at "rd"
              refine ⟨r, ra, rb, L, D, rfl, hr3, pa3, pb3, by omega, by omega, fun G4 t4 => .inr ⟨rfl, _, SqT.of (t4 _ _ hr3), _, rfl, us, .inl ⟨SqL.of ((t23.trans t4) _ _ hLV), fun l nl => ?_⟩⟩⟩
              have t14 := t23.trans t4
              have ul := same_upd (o := .tup us) nl
              refine poly_cmp ((pa3.same t4).same ul).rep (show Pl K _ l L from ⟨us, SqT.of upd_same, (fLV.same t14).same ul⟩).rep (.inl ⟨by simp, _, SqT.of (ul _ _ (t4 _ _ hr3)), _, rfl, vs, .inl ⟨SqL.of (ul _ _ (t14 _ _ hDN)), fun l2 nl2 => ?_⟩⟩)
              have ul2 := same_upd (o := .tup vs) nl2
              exact poly_cmp (((pb3.same t4).same ul).same ul2).rep (show Pl K _ l2 D from ⟨vs, SqT.of upd_same, ((fDN.same t14).same ul).same ul2⟩).rep (.inl ⟨by simp, (t14.trans ul).trans ul2⟩)
            · rintro σ G2 ⟨r15, r16, rfl, t2⟩
              refine hN _ _ ?_
              clear hN N
              walk_at "rd"
              exact eqD_same _ (rep_lst (t2 _ _ hHA) (fNU.same t2)) (rep_lst (t2 _ _ hNU) (fNU.same t2)) dp.1 dp.2 (hq _)
    clear hN
    walk_at "rd"
    refine ⟨dv _ _ (by decide) (by decide), ?_⟩
    split
    · refine ⟨s1, qs, s1, qs, sz_le 2 (by decide), fun p np => ?_⟩
      have e : HO.tup [V.int (-s1.num), V.int (s1.den : Int)] = frO (-s1) := by rw [frO, Rat.neg_num, Rat.neg_den]
      rw [e]
      have u3 := same_upd (o := frO (-s1)) np
      refine fin p (-s1) _ ((u1.trans u2).trans u3) (qa.same u3) (Fq.of upd_same) ?_ ?_
      · obtain ⟨m, e1, e2⟩ := ls
        refine ⟨-m, ?_, by rw [Int.natAbs_neg]; exact e2⟩
        rw [Rat.intCast_neg, ← e1]; grind
      · intro z
        exact s0 (by grind)
    · exact fin ps s1 H2 (u1.trans u2) qa qs ls s0
end
theorem all_mk {l : PySem.W.OpenLaw} {w : World} {K : PySem.W.Frag} {h : Heap} {mg : Str → Option Value} {fa : Addr} {f_shared_part : Addr} {od_shared_part an_shared_part : Option Addr} {sl_shared_part : Array (Option Value)} {oc_shared_part kV_shared_part dc_shared_part pm_shared_part cd_shared_part ct_shared_part : Value} {f_plus : Addr} {od_plus an_plus : Option Addr} {sl_plus : Array (Option Value)} {oc_plus kV_plus dc_plus pm_plus cd_plus ct_plus : Value} {f_minus : Addr} {od_minus an_minus : Option Addr} {sl_minus : Array (Option Value)} {oc_minus kV_minus dc_minus pm_minus cd_minus ct_minus : Value} {f_times : Addr} {od_times an_times : Option Addr} {sl_times : Array (Option Value)} {oc_times kV_times dc_times pm_times cd_times ct_times : Value} {f_over : Addr} {od_over an_over : Option Addr} {sl_over : Array (Option Value)} {oc_over kV_over dc_over pm_over cd_over ct_over : Value} {f_poly_of : Addr} {od_poly_of an_poly_of : Option Addr} {sl_poly_of : Array (Option Value)} {oc_poly_of kV_poly_of dc_poly_of pm_poly_of cd_poly_of ct_poly_of : Value} {f_number_at : Addr} {od_number_at an_number_at : Option Addr} {sl_number_at : Array (Option Value)} {oc_number_at kV_number_at dc_number_at pm_number_at cd_number_at ct_number_at : Value} {f_poly_plus : Addr} {od_poly_plus an_poly_plus : Option Addr} {sl_poly_plus : Array (Option Value)} {oc_poly_plus kV_poly_plus dc_poly_plus pm_poly_plus cd_poly_plus ct_poly_plus : Value} {f_poly_scaled : Addr} {od_poly_scaled an_poly_scaled : Option Addr} {sl_poly_scaled : Array (Option Value)} {oc_poly_scaled kV_poly_scaled dc_poly_scaled pm_poly_scaled cd_poly_scaled ct_poly_scaled : Value} {f_poly_minus : Addr} {od_poly_minus an_poly_minus : Option Addr} {sl_poly_minus : Array (Option Value)} {oc_poly_minus kV_poly_minus dc_poly_minus pm_poly_minus cd_poly_minus ct_poly_minus : Value} {f_poly_times : Addr} {od_poly_times an_poly_times : Option Addr} {sl_poly_times : Array (Option Value)} {oc_poly_times kV_poly_times dc_poly_times pm_poly_times cd_poly_times ct_poly_times : Value} {f_degree_of : Addr} {od_degree_of an_degree_of : Option Addr} {sl_degree_of : Array (Option Value)} {oc_degree_of kV_degree_of dc_degree_of pm_degree_of cd_degree_of ct_degree_of : Value} {f_one_further : Addr} {od_one_further an_one_further : Option Addr} {sl_one_further : Array (Option Value)} {oc_one_further kV_one_further dc_one_further pm_one_further cd_one_further ct_one_further : Value} {f_ruled : Addr} {od_ruled an_ruled : Option Addr} {sl_ruled : Array (Option Value)} {oc_ruled kV_ruled dc_ruled pm_ruled cd_ruled ct_ruled : Value} {f_check_moments : Addr} {od_check_moments an_check_moments : Option Addr} {sl_check_moments : Array (Option Value)} {oc_check_moments kV_check_moments dc_check_moments pm_check_moments cd_check_moments ct_check_moments : Value} {f_weights_back : Addr} {od_weights_back an_weights_back : Option Addr} {sl_weights_back : Array (Option Value)} {oc_weights_back kV_weights_back dc_weights_back pm_weights_back cd_weights_back ct_weights_back : Value} {f__law_cell_at : Addr} {od__law_cell_at an__law_cell_at : Option Addr} {sl__law_cell_at : Array (Option Value)} {oc__law_cell_at kV__law_cell_at dc__law_cell_at pm__law_cell_at cd__law_cell_at ct__law_cell_at : Value} {f__law_stir : Addr} {od__law_stir an__law_stir : Option Addr} {sl__law_stir : Array (Option Value)} {oc__law_stir kV__law_stir dc__law_stir pm__law_stir cd__law_stir ct__law_stir : Value} {f__law_drawn : Addr} {od__law_drawn an__law_drawn : Option Addr} {sl__law_drawn : Array (Option Value)} {oc__law_drawn kV__law_drawn dc__law_drawn pm__law_drawn cd__law_drawn ct__law_drawn : Value} {f__law_whole : Addr} {od__law_whole an__law_whole : Option Addr} {sl__law_whole : Array (Option Value)} {oc__law_whole kV__law_whole dc__law_whole pm__law_whole cd__law_whole ct__law_whole : Value} {f__law_divisor : Addr} {od__law_divisor an__law_divisor : Option Addr} {sl__law_divisor : Array (Option Value)} {oc__law_divisor kV__law_divisor dc__law_divisor pm__law_divisor cd__law_divisor ct__law_divisor : Value} {f__law_low : Addr} {od__law_low an__law_low : Option Addr} {sl__law_low : Array (Option Value)} {oc__law_low kV__law_low dc__law_low pm__law_low cd__law_low ct__law_low : Value} {f__law_add : Addr} {od__law_add an__law_add : Option Addr} {sl__law_add : Array (Option Value)} {oc__law_add kV__law_add dc__law_add pm__law_add cd__law_add ct__law_add : Value} {f__law_mul : Addr} {od__law_mul an__law_mul : Option Addr} {sl__law_mul : Array (Option Value)} {oc__law_mul kV__law_mul dc__law_mul pm__law_mul cd__law_mul ct__law_mul : Value} {f__law_is_fraction : Addr} {od__law_is_fraction an__law_is_fraction : Option Addr} {sl__law_is_fraction : Array (Option Value)} {oc__law_is_fraction kV__law_is_fraction dc__law_is_fraction pm__law_is_fraction cd__law_is_fraction ct__law_is_fraction : Value} {f__law_told_weights : Addr} {od__law_told_weights an__law_told_weights : Option Addr} {sl__law_told_weights : Array (Option Value)} {oc__law_told_weights kV__law_told_weights dc__law_told_weights pm__law_told_weights cd__law_told_weights ct__law_told_weights : Value} {f__law_ways : Addr} {od__law_ways an__law_ways : Option Addr} {sl__law_ways : Array (Option Value)} {oc__law_ways kV__law_ways dc__law_ways pm__law_ways cd__law_ways ct__law_ways : Value} {f__law_sets : Addr} {od__law_sets an__law_sets : Option Addr} {sl__law_sets : Array (Option Value)} {oc__law_sets kV__law_sets dc__law_sets pm__law_sets cd__law_sets ct__law_sets : Value} {f__law_counted : Addr} {od__law_counted an__law_counted : Option Addr} {sl__law_counted : Array (Option Value)} {oc__law_counted kV__law_counted dc__law_counted pm__law_counted cd__law_counted ct__law_counted : Value} {f_law : Addr} {od_law an_law : Option Addr} {sl_law : Array (Option Value)} {oc_law kV_law dc_law pm_law cd_law ct_law : Value} {C_NOUGHT : Addr} {C_NoFraction : Addr} {C_NoMoments : Addr} {C_ONE : Addr} {C_TooFar : Addr} {tk_MOST_MOMENTS : Tok} (X : K.In h) (G : h.Ns mainGlobals mg) (hfa : mg "law" = some (.ref fa))
    (a_shared_part : PySem.W.nsIn K mainGlobals "shared_part" = some (some (.ref f_shared_part)))
    (l_shared_part : K.lookup f_shared_part = some ⟨oc_shared_part, od_shared_part, .func (PySem.W.fnOf "shared_part" "shared_part" (defArgs s_shared_part) (defBody s_shared_part) (defScope s_shared_part) .none kV_shared_part dc_shared_part pm_shared_part an_shared_part cd_shared_part ct_shared_part), sl_shared_part⟩)
    (e_shared_part : PySem.W.codeIn K cd_shared_part "shared_part" = true)
    (k_shared_part : PySem.W.keepIn K (.ref f_shared_part) = true)
    (a_plus : PySem.W.nsIn K mainGlobals "plus" = some (some (.ref f_plus)))
    (l_plus : K.lookup f_plus = some ⟨oc_plus, od_plus, .func (PySem.W.fnOf "plus" "plus" (defArgs s_plus) (defBody s_plus) (defScope s_plus) .none kV_plus dc_plus pm_plus an_plus cd_plus ct_plus), sl_plus⟩)
    (e_plus : PySem.W.codeIn K cd_plus "plus" = true)
    (k_plus : PySem.W.keepIn K (.ref f_plus) = true)
    (a_minus : PySem.W.nsIn K mainGlobals "minus" = some (some (.ref f_minus)))
    (l_minus : K.lookup f_minus = some ⟨oc_minus, od_minus, .func (PySem.W.fnOf "minus" "minus" (defArgs s_minus) (defBody s_minus) (defScope s_minus) .none kV_minus dc_minus pm_minus an_minus cd_minus ct_minus), sl_minus⟩)
    (e_minus : PySem.W.codeIn K cd_minus "minus" = true)
    (k_minus : PySem.W.keepIn K (.ref f_minus) = true)
    (a_times : PySem.W.nsIn K mainGlobals "times" = some (some (.ref f_times)))
    (l_times : K.lookup f_times = some ⟨oc_times, od_times, .func (PySem.W.fnOf "times" "times" (defArgs s_times) (defBody s_times) (defScope s_times) .none kV_times dc_times pm_times an_times cd_times ct_times), sl_times⟩)
    (e_times : PySem.W.codeIn K cd_times "times" = true)
    (k_times : PySem.W.keepIn K (.ref f_times) = true)
    (a_over : PySem.W.nsIn K mainGlobals "over" = some (some (.ref f_over)))
    (l_over : K.lookup f_over = some ⟨oc_over, od_over, .func (PySem.W.fnOf "over" "over" (defArgs s_over) (defBody s_over) (defScope s_over) .none kV_over dc_over pm_over an_over cd_over ct_over), sl_over⟩)
    (e_over : PySem.W.codeIn K cd_over "over" = true)
    (k_over : PySem.W.keepIn K (.ref f_over) = true)
    (a_poly_of : PySem.W.nsIn K mainGlobals "poly_of" = some (some (.ref f_poly_of)))
    (l_poly_of : K.lookup f_poly_of = some ⟨oc_poly_of, od_poly_of, .func (PySem.W.fnOf "poly_of" "poly_of" (defArgs s_poly_of) (defBody s_poly_of) (defScope s_poly_of) .none kV_poly_of dc_poly_of pm_poly_of an_poly_of cd_poly_of ct_poly_of), sl_poly_of⟩)
    (e_poly_of : PySem.W.codeIn K cd_poly_of "poly_of" = true)
    (k_poly_of : PySem.W.keepIn K (.ref f_poly_of) = true)
    (a_number_at : PySem.W.nsIn K mainGlobals "number_at" = some (some (.ref f_number_at)))
    (l_number_at : K.lookup f_number_at = some ⟨oc_number_at, od_number_at, .func (PySem.W.fnOf "number_at" "number_at" (defArgs s_number_at) (defBody s_number_at) (defScope s_number_at) .none kV_number_at dc_number_at pm_number_at an_number_at cd_number_at ct_number_at), sl_number_at⟩)
    (e_number_at : PySem.W.codeIn K cd_number_at "number_at" = true)
    (k_number_at : PySem.W.keepIn K (.ref f_number_at) = true)
    (a_poly_plus : PySem.W.nsIn K mainGlobals "poly_plus" = some (some (.ref f_poly_plus)))
    (l_poly_plus : K.lookup f_poly_plus = some ⟨oc_poly_plus, od_poly_plus, .func (PySem.W.fnOf "poly_plus" "poly_plus" (defArgs s_poly_plus) (defBody s_poly_plus) (defScope s_poly_plus) .none kV_poly_plus dc_poly_plus pm_poly_plus an_poly_plus cd_poly_plus ct_poly_plus), sl_poly_plus⟩)
    (e_poly_plus : PySem.W.codeIn K cd_poly_plus "poly_plus" = true)
    (k_poly_plus : PySem.W.keepIn K (.ref f_poly_plus) = true)
    (a_poly_scaled : PySem.W.nsIn K mainGlobals "poly_scaled" = some (some (.ref f_poly_scaled)))
    (l_poly_scaled : K.lookup f_poly_scaled = some ⟨oc_poly_scaled, od_poly_scaled, .func (PySem.W.fnOf "poly_scaled" "poly_scaled" (defArgs s_poly_scaled) (defBody s_poly_scaled) (defScope s_poly_scaled) .none kV_poly_scaled dc_poly_scaled pm_poly_scaled an_poly_scaled cd_poly_scaled ct_poly_scaled), sl_poly_scaled⟩)
    (e_poly_scaled : PySem.W.codeIn K cd_poly_scaled "poly_scaled" = true)
    (k_poly_scaled : PySem.W.keepIn K (.ref f_poly_scaled) = true)
    (a_poly_minus : PySem.W.nsIn K mainGlobals "poly_minus" = some (some (.ref f_poly_minus)))
    (l_poly_minus : K.lookup f_poly_minus = some ⟨oc_poly_minus, od_poly_minus, .func (PySem.W.fnOf "poly_minus" "poly_minus" (defArgs s_poly_minus) (defBody s_poly_minus) (defScope s_poly_minus) .none kV_poly_minus dc_poly_minus pm_poly_minus an_poly_minus cd_poly_minus ct_poly_minus), sl_poly_minus⟩)
    (e_poly_minus : PySem.W.codeIn K cd_poly_minus "poly_minus" = true)
    (k_poly_minus : PySem.W.keepIn K (.ref f_poly_minus) = true)
    (a_poly_times : PySem.W.nsIn K mainGlobals "poly_times" = some (some (.ref f_poly_times)))
    (l_poly_times : K.lookup f_poly_times = some ⟨oc_poly_times, od_poly_times, .func (PySem.W.fnOf "poly_times" "poly_times" (defArgs s_poly_times) (defBody s_poly_times) (defScope s_poly_times) .none kV_poly_times dc_poly_times pm_poly_times an_poly_times cd_poly_times ct_poly_times), sl_poly_times⟩)
    (e_poly_times : PySem.W.codeIn K cd_poly_times "poly_times" = true)
    (k_poly_times : PySem.W.keepIn K (.ref f_poly_times) = true)
    (a_degree_of : PySem.W.nsIn K mainGlobals "degree_of" = some (some (.ref f_degree_of)))
    (l_degree_of : K.lookup f_degree_of = some ⟨oc_degree_of, od_degree_of, .func (PySem.W.fnOf "degree_of" "degree_of" (defArgs s_degree_of) (defBody s_degree_of) (defScope s_degree_of) .none kV_degree_of dc_degree_of pm_degree_of an_degree_of cd_degree_of ct_degree_of), sl_degree_of⟩)
    (e_degree_of : PySem.W.codeIn K cd_degree_of "degree_of" = true)
    (k_degree_of : PySem.W.keepIn K (.ref f_degree_of) = true)
    (a_one_further : PySem.W.nsIn K mainGlobals "one_further" = some (some (.ref f_one_further)))
    (l_one_further : K.lookup f_one_further = some ⟨oc_one_further, od_one_further, .func (PySem.W.fnOf "one_further" "one_further" (defArgs s_one_further) (defBody s_one_further) (defScope s_one_further) .none kV_one_further dc_one_further pm_one_further an_one_further cd_one_further ct_one_further), sl_one_further⟩)
    (e_one_further : PySem.W.codeIn K cd_one_further "one_further" = true)
    (k_one_further : PySem.W.keepIn K (.ref f_one_further) = true)
    (a_ruled : PySem.W.nsIn K mainGlobals "ruled" = some (some (.ref f_ruled)))
    (l_ruled : K.lookup f_ruled = some ⟨oc_ruled, od_ruled, .func (PySem.W.fnOf "ruled" "ruled" (defArgs s_ruled) (defBody s_ruled) (defScope s_ruled) .none kV_ruled dc_ruled pm_ruled an_ruled cd_ruled ct_ruled), sl_ruled⟩)
    (e_ruled : PySem.W.codeIn K cd_ruled "ruled" = true)
    (k_ruled : PySem.W.keepIn K (.ref f_ruled) = true)
    (a_check_moments : PySem.W.nsIn K mainGlobals "check_moments" = some (some (.ref f_check_moments)))
    (l_check_moments : K.lookup f_check_moments = some ⟨oc_check_moments, od_check_moments, .func (PySem.W.fnOf "check_moments" "check_moments" (defArgs s_check_moments) (defBody s_check_moments) (defScope s_check_moments) .none kV_check_moments dc_check_moments pm_check_moments an_check_moments cd_check_moments ct_check_moments), sl_check_moments⟩)
    (e_check_moments : PySem.W.codeIn K cd_check_moments "check_moments" = true)
    (k_check_moments : PySem.W.keepIn K (.ref f_check_moments) = true)
    (a_weights_back : PySem.W.nsIn K mainGlobals "weights_back" = some (some (.ref f_weights_back)))
    (l_weights_back : K.lookup f_weights_back = some ⟨oc_weights_back, od_weights_back, .func (PySem.W.fnOf "weights_back" "weights_back" (defArgs s_weights_back) (defBody s_weights_back) (defScope s_weights_back) .none kV_weights_back dc_weights_back pm_weights_back an_weights_back cd_weights_back ct_weights_back), sl_weights_back⟩)
    (e_weights_back : PySem.W.codeIn K cd_weights_back "weights_back" = true)
    (k_weights_back : PySem.W.keepIn K (.ref f_weights_back) = true)
    (a__law_cell_at : PySem.W.nsIn K mainGlobals "_law_cell_at" = some (some (.ref f__law_cell_at)))
    (l__law_cell_at : K.lookup f__law_cell_at = some ⟨oc__law_cell_at, od__law_cell_at, .func (PySem.W.fnOf "_law_cell_at" "_law_cell_at" (defArgs s__law_cell_at) (defBody s__law_cell_at) (defScope s__law_cell_at) .none kV__law_cell_at dc__law_cell_at pm__law_cell_at an__law_cell_at cd__law_cell_at ct__law_cell_at), sl__law_cell_at⟩)
    (e__law_cell_at : PySem.W.codeIn K cd__law_cell_at "_law_cell_at" = true)
    (k__law_cell_at : PySem.W.keepIn K (.ref f__law_cell_at) = true)
    (a__law_stir : PySem.W.nsIn K mainGlobals "_law_stir" = some (some (.ref f__law_stir)))
    (l__law_stir : K.lookup f__law_stir = some ⟨oc__law_stir, od__law_stir, .func (PySem.W.fnOf "_law_stir" "_law_stir" (defArgs s__law_stir) (defBody s__law_stir) (defScope s__law_stir) .none kV__law_stir dc__law_stir pm__law_stir an__law_stir cd__law_stir ct__law_stir), sl__law_stir⟩)
    (e__law_stir : PySem.W.codeIn K cd__law_stir "_law_stir" = true)
    (k__law_stir : PySem.W.keepIn K (.ref f__law_stir) = true)
    (a__law_drawn : PySem.W.nsIn K mainGlobals "_law_drawn" = some (some (.ref f__law_drawn)))
    (l__law_drawn : K.lookup f__law_drawn = some ⟨oc__law_drawn, od__law_drawn, .func (PySem.W.fnOf "_law_drawn" "_law_drawn" (defArgs s__law_drawn) (defBody s__law_drawn) (defScope s__law_drawn) .none kV__law_drawn dc__law_drawn pm__law_drawn an__law_drawn cd__law_drawn ct__law_drawn), sl__law_drawn⟩)
    (e__law_drawn : PySem.W.codeIn K cd__law_drawn "_law_drawn" = true)
    (k__law_drawn : PySem.W.keepIn K (.ref f__law_drawn) = true)
    (a__law_whole : PySem.W.nsIn K mainGlobals "_law_whole" = some (some (.ref f__law_whole)))
    (l__law_whole : K.lookup f__law_whole = some ⟨oc__law_whole, od__law_whole, .func (PySem.W.fnOf "_law_whole" "_law_whole" (defArgs s__law_whole) (defBody s__law_whole) (defScope s__law_whole) .none kV__law_whole dc__law_whole pm__law_whole an__law_whole cd__law_whole ct__law_whole), sl__law_whole⟩)
    (e__law_whole : PySem.W.codeIn K cd__law_whole "_law_whole" = true)
    (k__law_whole : PySem.W.keepIn K (.ref f__law_whole) = true)
    (a__law_divisor : PySem.W.nsIn K mainGlobals "_law_divisor" = some (some (.ref f__law_divisor)))
    (l__law_divisor : K.lookup f__law_divisor = some ⟨oc__law_divisor, od__law_divisor, .func (PySem.W.fnOf "_law_divisor" "_law_divisor" (defArgs s__law_divisor) (defBody s__law_divisor) (defScope s__law_divisor) .none kV__law_divisor dc__law_divisor pm__law_divisor an__law_divisor cd__law_divisor ct__law_divisor), sl__law_divisor⟩)
    (e__law_divisor : PySem.W.codeIn K cd__law_divisor "_law_divisor" = true)
    (k__law_divisor : PySem.W.keepIn K (.ref f__law_divisor) = true)
    (a__law_low : PySem.W.nsIn K mainGlobals "_law_low" = some (some (.ref f__law_low)))
    (l__law_low : K.lookup f__law_low = some ⟨oc__law_low, od__law_low, .func (PySem.W.fnOf "_law_low" "_law_low" (defArgs s__law_low) (defBody s__law_low) (defScope s__law_low) .none kV__law_low dc__law_low pm__law_low an__law_low cd__law_low ct__law_low), sl__law_low⟩)
    (e__law_low : PySem.W.codeIn K cd__law_low "_law_low" = true)
    (k__law_low : PySem.W.keepIn K (.ref f__law_low) = true)
    (a__law_add : PySem.W.nsIn K mainGlobals "_law_add" = some (some (.ref f__law_add)))
    (l__law_add : K.lookup f__law_add = some ⟨oc__law_add, od__law_add, .func (PySem.W.fnOf "_law_add" "_law_add" (defArgs s__law_add) (defBody s__law_add) (defScope s__law_add) .none kV__law_add dc__law_add pm__law_add an__law_add cd__law_add ct__law_add), sl__law_add⟩)
    (e__law_add : PySem.W.codeIn K cd__law_add "_law_add" = true)
    (k__law_add : PySem.W.keepIn K (.ref f__law_add) = true)
    (a__law_mul : PySem.W.nsIn K mainGlobals "_law_mul" = some (some (.ref f__law_mul)))
    (l__law_mul : K.lookup f__law_mul = some ⟨oc__law_mul, od__law_mul, .func (PySem.W.fnOf "_law_mul" "_law_mul" (defArgs s__law_mul) (defBody s__law_mul) (defScope s__law_mul) .none kV__law_mul dc__law_mul pm__law_mul an__law_mul cd__law_mul ct__law_mul), sl__law_mul⟩)
    (e__law_mul : PySem.W.codeIn K cd__law_mul "_law_mul" = true)
    (k__law_mul : PySem.W.keepIn K (.ref f__law_mul) = true)
    (a__law_is_fraction : PySem.W.nsIn K mainGlobals "_law_is_fraction" = some (some (.ref f__law_is_fraction)))
    (l__law_is_fraction : K.lookup f__law_is_fraction = some ⟨oc__law_is_fraction, od__law_is_fraction, .func (PySem.W.fnOf "_law_is_fraction" "_law_is_fraction" (defArgs s__law_is_fraction) (defBody s__law_is_fraction) (defScope s__law_is_fraction) .none kV__law_is_fraction dc__law_is_fraction pm__law_is_fraction an__law_is_fraction cd__law_is_fraction ct__law_is_fraction), sl__law_is_fraction⟩)
    (e__law_is_fraction : PySem.W.codeIn K cd__law_is_fraction "_law_is_fraction" = true)
    (k__law_is_fraction : PySem.W.keepIn K (.ref f__law_is_fraction) = true)
    (a__law_told_weights : PySem.W.nsIn K mainGlobals "_law_told_weights" = some (some (.ref f__law_told_weights)))
    (l__law_told_weights : K.lookup f__law_told_weights = some ⟨oc__law_told_weights, od__law_told_weights, .func (PySem.W.fnOf "_law_told_weights" "_law_told_weights" (defArgs s__law_told_weights) (defBody s__law_told_weights) (defScope s__law_told_weights) .none kV__law_told_weights dc__law_told_weights pm__law_told_weights an__law_told_weights cd__law_told_weights ct__law_told_weights), sl__law_told_weights⟩)
    (e__law_told_weights : PySem.W.codeIn K cd__law_told_weights "_law_told_weights" = true)
    (k__law_told_weights : PySem.W.keepIn K (.ref f__law_told_weights) = true)
    (a__law_ways : PySem.W.nsIn K mainGlobals "_law_ways" = some (some (.ref f__law_ways)))
    (l__law_ways : K.lookup f__law_ways = some ⟨oc__law_ways, od__law_ways, .func (PySem.W.fnOf "_law_ways" "_law_ways" (defArgs s__law_ways) (defBody s__law_ways) (defScope s__law_ways) .none kV__law_ways dc__law_ways pm__law_ways an__law_ways cd__law_ways ct__law_ways), sl__law_ways⟩)
    (e__law_ways : PySem.W.codeIn K cd__law_ways "_law_ways" = true)
    (k__law_ways : PySem.W.keepIn K (.ref f__law_ways) = true)
    (a__law_sets : PySem.W.nsIn K mainGlobals "_law_sets" = some (some (.ref f__law_sets)))
    (l__law_sets : K.lookup f__law_sets = some ⟨oc__law_sets, od__law_sets, .func (PySem.W.fnOf "_law_sets" "_law_sets" (defArgs s__law_sets) (defBody s__law_sets) (defScope s__law_sets) .none kV__law_sets dc__law_sets pm__law_sets an__law_sets cd__law_sets ct__law_sets), sl__law_sets⟩)
    (e__law_sets : PySem.W.codeIn K cd__law_sets "_law_sets" = true)
    (k__law_sets : PySem.W.keepIn K (.ref f__law_sets) = true)
    (a__law_counted : PySem.W.nsIn K mainGlobals "_law_counted" = some (some (.ref f__law_counted)))
    (l__law_counted : K.lookup f__law_counted = some ⟨oc__law_counted, od__law_counted, .func (PySem.W.fnOf "_law_counted" "_law_counted" (defArgs s__law_counted) (defBody s__law_counted) (defScope s__law_counted) .none kV__law_counted dc__law_counted pm__law_counted an__law_counted cd__law_counted ct__law_counted), sl__law_counted⟩)
    (e__law_counted : PySem.W.codeIn K cd__law_counted "_law_counted" = true)
    (k__law_counted : PySem.W.keepIn K (.ref f__law_counted) = true)
    (a_law : PySem.W.nsIn K mainGlobals "law" = some (some (.ref f_law)))
    (l_law : K.lookup f_law = some ⟨oc_law, od_law, .func (PySem.W.fnOf "law" "law" (defArgs s_law) (defBody s_law) (defScope s_law) .none kV_law dc_law pm_law an_law cd_law ct_law), sl_law⟩)
    (e_law : PySem.W.codeIn K cd_law "law" = true)
    (k_law : PySem.W.keepIn K (.ref f_law) = true)
    (a_NOUGHT : PySem.W.nsIn K mainGlobals "NOUGHT" = some (some (.ref C_NOUGHT)))
    (a_NoFraction : PySem.W.nsIn K mainGlobals "NoFraction" = some (some (.ref C_NoFraction)))
    (a_NoMoments : PySem.W.nsIn K mainGlobals "NoMoments" = some (some (.ref C_NoMoments)))
    (a_ONE : PySem.W.nsIn K mainGlobals "ONE" = some (some (.ref C_ONE)))
    (a_TooFar : PySem.W.nsIn K mainGlobals "TooFar" = some (some (.ref C_TooFar)))
    (n_abs : PySem.W.nsIn K mainGlobals "abs" = some none)
    (n_all : PySem.W.nsIn K mainGlobals "all" = some none)
    (n_bool : PySem.W.nsIn K mainGlobals "bool" = some none)
    (n_enumerate : PySem.W.nsIn K mainGlobals "enumerate" = some none)
    (n_int : PySem.W.nsIn K mainGlobals "int" = some none)
    (n_isinstance : PySem.W.nsIn K mainGlobals "isinstance" = some none)
    (n_len : PySem.W.nsIn K mainGlobals "len" = some none)
    (n_list : PySem.W.nsIn K mainGlobals "list" = some none)
    (n_max : PySem.W.nsIn K mainGlobals "max" = some none)
    (n_range : PySem.W.nsIn K mainGlobals "range" = some none)
    (n_tuple : PySem.W.nsIn K mainGlobals "tuple" = some none)
    (a_MOST_MOMENTS : PySem.W.nsIn K mainGlobals "MOST_MOMENTS" = some (some (.int 16 tk_MOST_MOMENTS)))
    (x_nought : frIn K C_NOUGHT 0 1 = true)
    (x_one : frIn K C_ONE 1 1 = true)
    (x_tf : PySem.W.excIn K C_TooFar vmro "ValueError.__new__" = true)
    (x_nf : PySem.W.excIn K C_NoFraction vmro "ValueError.__new__" = true)
    (x_nm : PySem.W.excIn K C_NoMoments vmro "ValueError.__new__" = true)
    : ∃ fd : FuncData, (∀ (s : Shared) (v : Value), BindsTo s fd ⟨[v], []⟩ [("_law_script", v)]) ∧ ∀ base : Heap, K.In base → base.Ns mainGlobals mg → FnOk l.prog w K mg base (CXe l.prog w) 7 fa fd ["_law_script"] (spLaw K) := by
  have e := hfa.symm.trans (PySem.W.mg_of X G a_law)
  cases e
  have T : Tx w K mg C_NOUGHT C_NoFraction C_NoMoments C_ONE C_TooFar := { b_abs := PySem.W.mg_none_of X G n_abs, b_all := PySem.W.mg_none_of X G n_all, b_bool := PySem.W.mg_none_of X G n_bool, b_enumerate := PySem.W.mg_none_of X G n_enumerate, b_int := PySem.W.mg_none_of X G n_int, b_isinstance := PySem.W.mg_none_of X G n_isinstance, b_len := PySem.W.mg_none_of X G n_len, b_list := PySem.W.mg_none_of X G n_list, b_max := PySem.W.mg_none_of X G n_max, b_range := PySem.W.mg_none_of X G n_range, b_tuple := PySem.W.mg_none_of X G n_tuple, m_NOUGHT := PySem.W.mg_of X G a_NOUGHT, m_NoFraction := PySem.W.mg_of X G a_NoFraction, m_NoMoments := PySem.W.mg_of X G a_NoMoments, m_ONE := PySem.W.mg_of X G a_ONE, m_TooFar := PySem.W.mg_of X G a_TooFar, nought := frIn_sq x_nought, one := frIn_sq x_one, x_TooFar := x_tf, x_NoMoments := x_nm, x_NoFraction := x_nf, g_MOSTM := ⟨_, PySem.W.mg_of X G a_MOST_MOMENTS⟩ }
  refine ⟨PySem.W.fnOf "law" "law" (defArgs s_law) (defBody s_law) (defScope s_law) .none kV_law dc_law pm_law an_law cd_law ct_law, fun s v => .of_eq rfl, fun base _ _ => ?_⟩
  have h_shared_part := ok_shared_part (P := l.prog) (w := w) (base := base) (fun_mk (st := s_shared_part) l_shared_part e_shared_part k_shared_part) (PySem.W.mg_of X G a_shared_part) T 
  have h_plus := ok_plus (P := l.prog) (w := w) (base := base) (fun_mk (st := s_plus) l_plus e_plus k_plus) (PySem.W.mg_of X G a_plus) T h_shared_part
  have h_minus := ok_minus (P := l.prog) (w := w) (base := base) (fun_mk (st := s_minus) l_minus e_minus k_minus) (PySem.W.mg_of X G a_minus) T h_plus
  have h_times := ok_times (P := l.prog) (w := w) (base := base) (fun_mk (st := s_times) l_times e_times k_times) (PySem.W.mg_of X G a_times) T h_shared_part
  have h_over := ok_over (P := l.prog) (w := w) (base := base) (fun_mk (st := s_over) l_over e_over k_over) (PySem.W.mg_of X G a_over) T h_times
  have h_poly_of := ok_poly_of (P := l.prog) (w := w) (base := base) (fun_mk (st := s_poly_of) l_poly_of e_poly_of k_poly_of) (PySem.W.mg_of X G a_poly_of) T 
  have h_number_at := ok_number_at (P := l.prog) (w := w) (base := base) (fun_mk (st := s_number_at) l_number_at e_number_at k_number_at) (PySem.W.mg_of X G a_number_at) T 
  have h_poly_plus := ok_poly_plus (P := l.prog) (w := w) (base := base) (fun_mk (st := s_poly_plus) l_poly_plus e_poly_plus k_poly_plus) (PySem.W.mg_of X G a_poly_plus) T h_number_at h_plus h_poly_of
  have h_poly_scaled := ok_poly_scaled (P := l.prog) (w := w) (base := base) (fun_mk (st := s_poly_scaled) l_poly_scaled e_poly_scaled k_poly_scaled) (PySem.W.mg_of X G a_poly_scaled) T h_poly_of h_times
  have h_poly_minus := ok_poly_minus (P := l.prog) (w := w) (base := base) (fun_mk (st := s_poly_minus) l_poly_minus e_poly_minus k_poly_minus) (PySem.W.mg_of X G a_poly_minus) T h_poly_plus h_poly_scaled
  have h_poly_times := ok_poly_times (P := l.prog) (w := w) (base := base) (fun_mk (st := s_poly_times) l_poly_times e_poly_times k_poly_times) (PySem.W.mg_of X G a_poly_times) T h_plus h_poly_of h_times
  have h_degree_of := ok_degree_of (P := l.prog) (w := w) (base := base) (fun_mk (st := s_degree_of) l_degree_of e_degree_of k_degree_of) (PySem.W.mg_of X G a_degree_of) T 
  have h_one_further := ok_one_further (P := l.prog) (w := w) (base := base) (fun_mk (st := s_one_further) l_one_further e_one_further k_one_further) (PySem.W.mg_of X G a_one_further) T h_minus h_poly_minus h_poly_of h_poly_scaled h_poly_times
  have h_ruled := ok_ruled (P := l.prog) (w := w) (base := base) (fun_mk (st := s_ruled) l_ruled e_ruled k_ruled) (PySem.W.mg_of X G a_ruled) T h_degree_of h_plus h_times
  have h_check_moments := ok_check_moments (P := l.prog) (w := w) (base := base) (fun_mk (st := s_check_moments) l_check_moments e_check_moments k_check_moments) (PySem.W.mg_of X G a_check_moments) T 
  have h_weights_back := ok_weights_back (P := l.prog) (w := w) (base := base) (fun_mk (st := s_weights_back) l_weights_back e_weights_back k_weights_back) (PySem.W.mg_of X G a_weights_back) T h_check_moments h_minus h_one_further h_over h_ruled
  have h__law_cell_at := ok__law_cell_at (P := l.prog) (w := w) (base := base) (fun_mk (st := s__law_cell_at) l__law_cell_at e__law_cell_at k__law_cell_at) (PySem.W.mg_of X G a__law_cell_at) T 
  have h__law_stir := ok__law_stir (P := l.prog) (w := w) (base := base) (fun_mk (st := s__law_stir) l__law_stir e__law_stir k__law_stir) (PySem.W.mg_of X G a__law_stir) T 
  have h__law_drawn := ok__law_drawn (P := l.prog) (w := w) (base := base) (fun_mk (st := s__law_drawn) l__law_drawn e__law_drawn k__law_drawn) (PySem.W.mg_of X G a__law_drawn) T h__law_cell_at h__law_stir
  have h__law_whole := ok__law_whole (P := l.prog) (w := w) (base := base) (fun_mk (st := s__law_whole) l__law_whole e__law_whole k__law_whole) (PySem.W.mg_of X G a__law_whole) T 
  have h__law_divisor := ok__law_divisor (P := l.prog) (w := w) (base := base) (fun_mk (st := s__law_divisor) l__law_divisor e__law_divisor k__law_divisor) (PySem.W.mg_of X G a__law_divisor) T 
  have h__law_low := ok__law_low (P := l.prog) (w := w) (base := base) (fun_mk (st := s__law_low) l__law_low e__law_low k__law_low) (PySem.W.mg_of X G a__law_low) T h__law_divisor
  have h__law_add := ok__law_add (P := l.prog) (w := w) (base := base) (fun_mk (st := s__law_add) l__law_add e__law_add k__law_add) (PySem.W.mg_of X G a__law_add) T h__law_low
  have h__law_mul := ok__law_mul (P := l.prog) (w := w) (base := base) (fun_mk (st := s__law_mul) l__law_mul e__law_mul k__law_mul) (PySem.W.mg_of X G a__law_mul) T h__law_low
  have h__law_is_fraction := ok__law_is_fraction (P := l.prog) (w := w) (base := base) (fun_mk (st := s__law_is_fraction) l__law_is_fraction e__law_is_fraction k__law_is_fraction) (PySem.W.mg_of X G a__law_is_fraction) T h__law_divisor h__law_whole
  have h__law_told_weights := ok__law_told_weights (P := l.prog) (w := w) (base := base) (fun_mk (st := s__law_told_weights) l__law_told_weights e__law_told_weights k__law_told_weights) (PySem.W.mg_of X G a__law_told_weights) T h__law_is_fraction
  have h__law_ways := ok__law_ways (P := l.prog) (w := w) (base := base) (fun_mk (st := s__law_ways) l__law_ways e__law_ways k__law_ways) (PySem.W.mg_of X G a__law_ways) T 
  have h__law_sets := ok__law_sets (P := l.prog) (w := w) (base := base) (fun_mk (st := s__law_sets) l__law_sets e__law_sets k__law_sets) (PySem.W.mg_of X G a__law_sets) T h__law_add h__law_mul
  have h__law_counted := ok__law_counted (P := l.prog) (w := w) (base := base) (fun_mk (st := s__law_counted) l__law_counted e__law_counted k__law_counted) (PySem.W.mg_of X G a__law_counted) T h__law_sets h__law_ways
  exact fn_law (fun_mk (st := s_law) l_law e_law k_law) T h__law_add h__law_counted h__law_drawn h__law_low h__law_mul h__law_told_weights h_weights_back
theorem walk {l : PySem.W.OpenLaw} {q : Program} {loose : List Str} {XP : (Str → Option Value) → Heap → Prop} {YP : World → Heap → Prop} {d : DefRec} {K : Params → PySem.W.Frag} (hn : l.most = some 63) (hdf : d.params.defaults = [])
    (hY : ∀ (w : World) (h : Heap), YP w h → (K w.params).In h)
    (F : ∀ (w : World) (mg : Str → Option Value) (fa : Addr) (h : Heap), (K w.params).In h → h.Ns mainGlobals mg → mg d.name = some (.ref fa) →
      ∃ fd : FuncData, (∀ (s : Shared) (u : Value), BindsTo s fd ⟨[u], []⟩ [("_law_script", u)]) ∧ ∀ base : Heap, (K w.params).In base → base.Ns mainGlobals mg → FnOk l.prog w (K w.params) mg base (CXe l.prog w) 7 fa fd ["_law_script"] (spLaw (K w.params))) :
    PySem.W.WalkO q loose XP YP l.row.toRowW d [] (fun f vs => PySem.call f vs) :=
  L2.walk_of (n := 63) (k := 7) (x := "_law_script") (CX := fun w => CXe l.prog w) (sp := fun w => spLaw (K w.params)) hn (by decide) hdf ⟨rfl, by decide, by decide⟩ hY F (fun _ _ a ns hl _ hS => ⟨a, ns, rfl, hS, hl, fun _ => rfl⟩) fun _ _ _ _ _ ⟨_, _, _, _, _, _, _, _, z⟩ => z
end K24
theorem PySem.W.Fast.tw6515959765718344281 : True := trivial
theorem PySem.W.Fast.tw2197806608937057183 : True := trivial
theorem PySem.W.Fast.tw17313188167016508705 : True := trivial
theorem PySem.W.Fast.tw12293218458794023349 : True := trivial
theorem PySem.W.Fast.tw2737839722377331864 : True := trivial
theorem PySem.W.Fast.tw15768812450725023940 : True := trivial
theorem PySem.W.Fast.tw2120999190808948005 : True := trivial
theorem PySem.W.Fast.tw468333730296186325 : True := trivial
theorem PySem.W.Fast.tw15424479985139261232 : True := trivial
theorem PySem.W.Fast.tw15222414062711009068 : True := trivial
theorem PySem.W.Fast.tw4072366387304234462 : True := trivial
theorem PySem.W.Fast.tw383459095333302148 : True := trivial
theorem PySem.W.Fast.tw1839306771313758057 : True := trivial
theorem PySem.W.Fast.tw13697568874530132694 : True := trivial
theorem PySem.W.Fast.tw7470391192625260852 : True := trivial
theorem PySem.W.Fast.tw11111168617519549140 : True := trivial
theorem PySem.W.Fast.tw6268121825563174296 : True := trivial
theorem PySem.W.Fast.tw5501891933009604815 : True := trivial
theorem PySem.W.Fast.tw925152970106731177 : True := trivial
theorem PySem.W.Fast.tw15881849418813529516 : True := trivial
theorem PySem.W.Fast.tw6268224194382224940 : True := trivial
theorem PySem.W.Fast.tw12398964363751555958 : True := trivial
theorem PySem.W.Fast.tw6509597784511224229 : True := trivial
theorem PySem.W.Fast.tw10252360095966420565 : True := trivial
theorem PySem.W.Fast.tw465664603191607016 : True := trivial
theorem PySem.W.Fast.tw652453629764735999 : True := trivial
theorem PySem.W.Fast.tw10307843414160276426 : True := trivial
theorem PySem.W.Fast.tw12812079459417436793 : True := trivial
theorem PySem.W.Fast.tw11957063004840210463 : True := trivial
theorem PySem.W.Fast.tw6420303336938985963 : True := trivial
theorem PySem.W.Fast.tw14308177200430324478 : True := trivial
theorem PySem.W.Fast.tw6363329108242754068 : True := trivial
theorem PySem.W.Fast.tw5838859324292208102 : True := trivial
theorem PySem.W.Fast.tw9098434663024764020 : True := trivial
theorem PySem.W.Fast.tw7545967782599225974 : True := trivial
theorem PySem.W.Fast.tw13231169388018107967 : True := trivial
theorem PySem.W.Fast.tw15704880212963161180 : True := trivial
theorem PySem.W.Fast.tw6995491994207718388 : True := trivial
theorem PySem.W.Fast.tw7962602375757050816 : True := trivial
theorem PySem.W.Fast.tw4293256820396202194 : True := trivial
theorem PySem.W.Fast.tw6975578200755579445 : True := trivial
theorem PySem.W.Fast.tw5023108409717860321 : True := trivial
theorem PySem.W.Fast.tw9240610480404243056 : True := trivial
theorem PySem.W.Fast.tw6286478186465539307 : True := trivial
theorem PySem.W.Fast.tw8986617562510233926 : True := trivial
theorem PySem.W.Fast.tw5349211250770552521 : True := trivial
theorem PySem.W.Fast.tw2865162397228004975 : True := trivial
theorem PySem.W.Fast.tw8979505182352937527 : True := trivial
theorem PySem.W.Fast.tw3727529639198648041 : True := trivial
theorem PySem.W.Fast.tw5543461677174454923 : True := trivial
theorem PySem.W.Fast.tw8081097331817813191 : True := trivial
theorem PySem.W.Fast.tw12870664319857130139 : True := trivial
theorem PySem.W.Fast.tw11403545354111326361 : True := trivial
theorem PySem.W.Fast.tw509213728013970078 : True := trivial
theorem PySem.W.Fast.tw6388339587591653726 : True := trivial
theorem PySem.W.Fast.tw6387796740510480890 : True := trivial
theorem PySem.W.Fast.tw10686564831800203198 : True := trivial
theorem PySem.W.Fast.tw1354445869570483565 : True := trivial
theorem PySem.W.Fast.tw17732894762936558637 : True := trivial
theorem PySem.W.Fast.tw10424017739020596215 : True := trivial
theorem PySem.W.Fast.tw8548784569863511976 : True := trivial
theorem PySem.W.Fast.tw1944186623927866027 : True := trivial
theorem PySem.W.Fast.tw17159116196995638102 : True := trivial
theorem PySem.W.Fast.tw11847090656996074379 : True := trivial
theorem PySem.W.Fast.tw5120786222578120144 : True := trivial
theorem PySem.W.Fast.tw16385873525346002220 : True := trivial
theorem PySem.W.Fast.tw14738435821974727339 : True := trivial
theorem PySem.W.Fast.tw16295816575560337255 : True := trivial
theorem PySem.W.Fast.tw7230002329781290710 : True := trivial
theorem PySem.W.Fast.tw12190815949319515113 : True := trivial
theorem PySem.W.Fast.tw7630978670241443287 : True := trivial
theorem PySem.W.Fast.tw14454270027949152039 : True := trivial
theorem PySem.W.Fast.tw16313125267821246683 : True := trivial
theorem PySem.W.Fast.tw9871041782119185717 : True := trivial
theorem PySem.W.Fast.tw17718119959326581428 : True := trivial
theorem PySem.W.Fast.tw309399151717145126 : True := trivial
theorem PySem.W.Fast.tw582314393610043890 : True := trivial
theorem PySem.W.Fast.tw15270965648571267244 : True := trivial
theorem PySem.W.Fast.tw13652262759640191932 : True := trivial
theorem PySem.W.Fast.tw4188207651770114813 : True := trivial
theorem PySem.W.Fast.tw3059338590661745592 : True := trivial
theorem PySem.W.Fast.tw14347941766502197493 : True := trivial
theorem PySem.W.Fast.tw10229522906119775526 : True := trivial
theorem PySem.W.Fast.tw9304746636028935831 : True := trivial
theorem PySem.W.Fast.tw5235861610361628395 : True := trivial
theorem PySem.W.Fast.tw13664547344882821719 : True := trivial
theorem PySem.W.Fast.tw13797395805425869483 : True := trivial
theorem PySem.W.Fast.tw10586786844424152413 : True := trivial
theorem PySem.W.Fast.tw4348823299960119986 : True := trivial
theorem PySem.W.Fast.tw4816430141379866600 : True := trivial
theorem PySem.W.Fast.tw55300315098056355 : True := trivial
theorem PySem.W.Fast.tw6725335789534560772 : True := trivial
theorem PySem.W.Fast.tw15019481144778174298 : True := trivial
theorem PySem.W.Fast.tw12807294674849616264 : True := trivial
theorem PySem.W.Fast.tw1478707110553865618 : True := trivial
theorem PySem.W.Fast.tw7348896079972687669 : True := trivial
theorem PySem.W.Fast.tw17944462358729063853 : True := trivial
theorem PySem.W.Fast.tw3545433491472715215 : True := trivial
theorem PySem.W.Fast.tw5315366533639489976 : True := trivial
theorem PySem.W.Fast.tw17538062731877255979 : True := trivial
theorem PySem.W.Fast.tw5853019084351987005 : True := trivial
theorem PySem.W.Fast.tw11081720576679688877 : True := trivial
theorem PySem.W.Fast.tw15704344023562392945 : True := trivial
theorem PySem.W.Fast.tw1729873982127120051 : True := trivial
theorem PySem.W.Fast.tw6013469263977827931 : True := trivial
theorem PySem.W.Fast.tw14371563040863493388 : True := trivial
theorem PySem.W.Fast.tw7300210996337030516 : True := trivial
theorem PySem.W.Fast.tw12452092922627546050 : True := trivial
theorem PySem.W.Fast.tw14685100495605390174 : True := trivial
theorem PySem.W.Fast.tw471482212386383553 : True := trivial
theorem PySem.W.Fast.tw10995459537406290093 : True := trivial
theorem PySem.W.Fast.tw1998775120906322266 : True := trivial
theorem PySem.W.Fast.tw7484559961882868468 : True := trivial
theorem PySem.W.Fast.tw6686229606109562596 : True := trivial
theorem PySem.W.Fast.tw2021906826213473525 : True := trivial
theorem PySem.W.Fast.tw6992109438138153335 : True := trivial
theorem PySem.W.Fast.tw17983518662070429536 : True := trivial
theorem PySem.W.Fast.tw2956872013997714573 : True := trivial
theorem PySem.W.Fast.tw16031624662340846919 : True := trivial
theorem PySem.W.Fast.tw4161109395968624749 : True := trivial
theorem PySem.W.Fast.tw8010134422032179984 : True := trivial
theorem PySem.W.Fast.tw13005266543230441192 : True := trivial
theorem PySem.W.Fast.tw2472352280626901188 : True := trivial
theorem PySem.W.Fast.tw10812767905671219525 : True := trivial
theorem PySem.W.Fast.tw16953642158070158670 : True := trivial
theorem PySem.W.Fast.tw962592410412816050 : True := trivial
theorem PySem.W.Fast.tw18103066166995859879 : True := trivial
theorem PySem.W.Fast.tw1408509545635672441 : True := trivial
theorem PySem.W.Fast.tw3781545693272799381 : True := trivial
theorem PySem.W.Fast.tw14971701988834395884 : True := trivial
theorem PySem.W.Fast.tw2076851611690405804 : True := trivial
theorem PySem.W.Fast.tw4158631474068053086 : True := trivial
theorem PySem.W.Fast.tw2131994805301031408 : True := trivial
theorem PySem.W.Fast.tw853094402441610126 : True := trivial
theorem PySem.W.Fast.tw14039909191380387035 : True := trivial
theorem PySem.W.Fast.tw14671258077878697213 : True := trivial
theorem PySem.W.Fast.tw2586708902485851182 : True := trivial
theorem PySem.W.Fast.tw7504975844923139911 : True := trivial
theorem PySem.W.Fast.tw13155637493916111520 : True := trivial
theorem PySem.W.Fast.tw4259387626040625 : True := trivial
theorem PySem.W.Fast.tw1645131754670554182 : True := trivial
theorem PySem.W.Fast.tw7483980487034874919 : True := trivial
theorem PySem.W.Fast.tw9717635480808201569 : True := trivial
theorem PySem.W.Fast.tw13025377940224932163 : True := trivial
theorem PySem.W.Fast.tw3203245955580993683 : True := trivial
theorem PySem.W.Fast.tw11681680357213295557 : True := trivial
theorem PySem.W.Fast.tw2220814740049248632 : True := trivial
theorem PySem.W.Fast.tw14937048310586651279 : True := trivial
theorem PySem.W.Fast.tw18370969713299966174 : True := trivial
theorem PySem.W.Fast.tw11545015228571376731 : True := trivial
theorem PySem.W.Fast.tw6052114135435540296 : True := trivial
theorem PySem.W.Fast.tw9706677111403687719 : True := trivial
theorem PySem.W.Fast.tw12761688003116021950 : True := trivial
theorem PySem.W.Fast.tw16859523482541034990 : True := trivial
theorem PySem.W.Fast.tw13292920099420959827 : True := trivial
theorem PySem.W.Fast.tw13724083306232110682 : True := trivial
theorem PySem.W.Fast.tw13067407196877779764 : True := trivial
theorem PySem.W.Fast.tw7008939319810587798 : True := trivial
theorem PySem.W.Fast.tw12006172437193015613 : True := trivial
theorem PySem.W.Fast.tw15826417630418989286 : True := trivial
theorem PySem.W.Fast.tw15701397461211922906 : True := trivial
theorem PySem.W.Fast.tw4523104544259712823 : True := trivial
theorem PySem.W.Fast.tw3214356990987299754 : True := trivial
theorem PySem.W.Fast.tw10100209884659709858 : True := trivial
theorem PySem.W.Fast.tw569662109943249874 : True := trivial
theorem PySem.W.Fast.tw17475256666735177974 : True := trivial
theorem PySem.W.Fast.tw1688261073112391467 : True := trivial
theorem PySem.W.Fast.tw16017441849540011766 : True := trivial
theorem PySem.W.Fast.tw670764866595916589 : True := trivial
theorem PySem.W.Fast.tw14931179769381066345 : True := trivial
theorem PySem.W.Fast.tw1413266812155384117 : True := trivial
theorem PySem.W.Fast.tw7887407518877946207 : True := trivial
theorem PySem.W.Fast.tw13880782169547041926 : True := trivial
theorem PySem.W.Fast.tw796700001351262046 : True := trivial
theorem PySem.W.Fast.tw4245817062327275578 : True := trivial
theorem PySem.W.Fast.tw9572996100955563534 : True := trivial
theorem PySem.W.Fast.tw15411327154143126128 : True := trivial
theorem PySem.W.Fast.tw4656004861621708252 : True := trivial
theorem PySem.W.Fast.tw16194289554782354530 : True := trivial
theorem PySem.W.Fast.tw6186509993239187546 : True := trivial
theorem PySem.W.Fast.tw3289605480154567644 : True := trivial
theorem PySem.W.Fast.tw3200578779040331221 : True := trivial
theorem PySem.W.Fast.tw6728096485451202101 : True := trivial
theorem PySem.W.Fast.tw15120056371734522653 : True := trivial
theorem PySem.W.Fast.tw4058262494777688377 : True := trivial
theorem PySem.W.Fast.tw10883538070589036102 : True := trivial
theorem PySem.W.Fast.tw5400336021665811776 : True := trivial
theorem PySem.W.Fast.tw11659189203820944481 : True := trivial
theorem PySem.W.Fast.tw9235335289350840811 : True := trivial
theorem PySem.W.Fast.tw7376082430034162519 : True := trivial
theorem PySem.W.Fast.tw941265737023097962 : True := trivial
theorem PySem.W.Fast.tw13265226344602140491 : True := trivial
theorem PySem.W.Fast.tw14699148540301971950 : True := trivial
theorem PySem.W.Fast.tw12854792728581162899 : True := trivial
theorem PySem.W.Fast.tw14613549937767720555 : True := trivial
theorem PySem.W.Fast.tw9152307336593395525 : True := trivial
theorem PySem.W.Fast.tw15048284157983679590 : True := trivial
theorem PySem.W.Fast.tw2695304551516737349 : True := trivial
theorem PySem.W.Fast.tw4001415678355291959 : True := trivial
theorem PySem.W.Fast.tw4315650299997880250 : True := trivial
theorem PySem.W.Fast.tw2850939331852894236 : True := trivial
theorem PySem.W.Fast.tw18098208027033773392 : True := trivial
theorem PySem.W.Fast.tw3791695862827425069 : True := trivial
theorem PySem.W.Fast.tw5658194967012415412 : True := trivial
theorem PySem.W.Fast.tw17062731341532598996 : True := trivial
theorem PySem.W.Fast.tw4400135267525722737 : True := trivial
theorem PySem.W.Fast.tw12925810240583833221 : True := trivial
theorem PySem.W.Fast.tw6256674905793736768 : True := trivial
theorem PySem.W.Fast.tw10258867072439421745 : True := trivial
theorem PySem.W.Fast.tw9412253132032556477 : True := trivial
theorem PySem.W.Fast.tw884072262580337557 : True := trivial
theorem PySem.W.Fast.tw10575925705709346650 : True := trivial
theorem PySem.W.Fast.tw6874595382629752165 : True := trivial
theorem PySem.W.Fast.tw9494777641562186189 : True := trivial
theorem PySem.W.Fast.tw892231699155931532 : True := trivial
theorem PySem.W.Fast.tw6336047461101169449 : True := trivial
theorem PySem.W.Fast.tw6291995709705547346 : True := trivial
theorem PySem.W.Fast.tw6256881129177361446 : True := trivial
theorem PySem.W.Fast.tw4094758492047832455 : True := trivial
theorem PySem.W.Fast.tw11955615075364608912 : True := trivial
theorem PySem.W.Fast.tw7740151485978589584 : True := trivial
theorem PySem.W.Fast.tw1877602138096127439 : True := trivial
theorem PySem.W.Fast.tw12500189264391973296 : True := trivial
theorem PySem.W.Fast.tw3928126095466165875 : True := trivial
theorem PySem.W.Fast.tw4647687965726545230 : True := trivial
theorem PySem.W.Fast.tw472835311820811455 : True := trivial
theorem PySem.W.Fast.tw5221912472602804902 : True := trivial
theorem PySem.W.Fast.tw12383251383148978381 : True := trivial
theorem PySem.W.Fast.tw8044797784762432575 : True := trivial
theorem PySem.W.Fast.tw8993994547536240893 : True := trivial
theorem PySem.W.Fast.tw7176584911024238593 : True := trivial
theorem PySem.W.Fast.tw14037047799800581573 : True := trivial
theorem PySem.W.Fast.tw3780933867446081432 : True := trivial
theorem PySem.W.Fast.tw11042327364392829877 : True := trivial
theorem PySem.W.Fast.tw3254732000048629927 : True := trivial
theorem PySem.W.Fast.tw17203409462499406112 : True := trivial
theorem PySem.W.Fast.tw14016613357827821675 : True := trivial
theorem PySem.W.Fast.tw13581912549529556109 : True := trivial
theorem PySem.W.Fast.tw16507421890763503106 : True := trivial
theorem PySem.W.Fast.tw18397630843934298410 : True := trivial
theorem PySem.W.Fast.tw13695098208862636460 : True := trivial
theorem PySem.W.Fast.tw344976147875910367 : True := trivial
theorem PySem.W.Fast.tw9819431736189910483 : True := trivial
theorem PySem.W.Fast.tw7614374878579316670 : True := trivial
theorem PySem.W.Fast.tw1608282882153731449 : True := trivial
theorem PySem.W.Fast.tw4360690839749299360 : True := trivial
theorem PySem.W.Fast.tw14232034665884787874 : True := trivial
theorem PySem.W.Fast.tw16353198691379546435 : True := trivial
theorem PySem.W.Fast.tw11506501260539969231 : True := trivial
theorem PySem.W.Fast.tw763467265195510376 : True := trivial
theorem PySem.W.Fast.tw15777912178324310844 : True := trivial
theorem PySem.W.Fast.tw9293908349990135049 : True := trivial
theorem PySem.W.Fast.tw9977553459877454985 : True := trivial
theorem PySem.W.Fast.tw2129880527399543439 : True := trivial
theorem PySem.W.Fast.tw4650712650141603386 : True := trivial
theorem PySem.W.Fast.tw16728827528120881380 : True := trivial
theorem PySem.W.Fast.tw343777306050206928 : True := trivial
theorem PySem.W.Fast.tw13087832780423018406 : True := trivial
theorem PySem.W.Fast.tw4991826508024219140 : True := trivial
theorem PySem.W.Fast.tw10685424376718323194 : True := trivial
theorem PySem.W.Fast.tw6716887588866297757 : True := trivial
theorem PySem.W.Fast.tw2703624074269786561 : True := trivial
theorem PySem.W.Fast.tw7900421325867580853 : True := trivial
theorem PySem.W.Fast.tw6684547948336389158 : True := trivial
theorem PySem.W.Fast.tw4082310021967038829 : True := trivial
theorem PySem.W.Fast.tw3569104853438528947 : True := trivial
theorem PySem.W.Fast.tw7223007750980459395 : True := trivial
theorem PySem.W.Fast.tw1539097906784370398 : True := trivial
theorem PySem.W.Fast.tw15943611339041489087 : True := trivial
theorem PySem.W.Fast.tw1889792482963572785 : True := trivial
theorem PySem.W.Fast.tw16007466213582314122 : True := trivial
theorem PySem.W.Fast.tw2827673575244912592 : True := trivial
theorem PySem.W.Fast.tw1013626832498876644 : True := trivial
theorem PySem.W.Fast.tw5637577409783441476 : True := trivial
theorem PySem.W.Fast.tw14523576750672919182 : True := trivial
theorem PySem.W.Fast.tw6888375641077063756 : True := trivial
theorem PySem.W.Fast.tw11364697174735044438 : True := trivial
theorem PySem.W.Fast.tw14441242990868345787 : True := trivial
theorem PySem.W.Fast.tw16766872167580969507 : True := trivial
theorem PySem.W.Fast.tw3639549298077696394 : True := trivial
theorem PySem.W.Fast.tw14922107573989811780 : True := trivial
theorem PySem.W.Fast.tw18005250909569731776 : True := trivial
theorem PySem.W.Fast.tw447650309371419995 : True := trivial
theorem PySem.W.Fast.tw17607253668172314235 : True := trivial
theorem PySem.W.Fast.tw14310148991512528011 : True := trivial
theorem PySem.W.Fast.tw12136635706282436491 : True := trivial
theorem PySem.W.Fast.tw9194103504435999149 : True := trivial
theorem PySem.W.Fast.tw3298251853025289031 : True := trivial
theorem PySem.W.Fast.tw13100857224703385266 : True := trivial
theorem PySem.W.Fast.tw5531938311386592531 : True := trivial
theorem PySem.W.Fast.tw8454202039776226682 : True := trivial
theorem PySem.W.Fast.tw11375696102958400985 : True := trivial
theorem PySem.W.Fast.tw659320342884979283 : True := trivial
theorem PySem.W.Fast.tw11904764512745760238 : True := trivial
theorem PySem.W.Fast.tw6588138481064880672 : True := trivial
theorem PySem.W.Fast.tw9370584098573832210 : True := trivial
theorem PySem.W.Fast.tw5488332507260541895 : True := trivial
theorem PySem.W.Fast.tw6774605318046445883 : True := trivial
theorem PySem.W.Fast.tw17752984605891715065 : True := trivial
theorem PySem.W.Fast.tw4944638471803584382 : True := trivial
theorem PySem.W.Fast.tw6173472073638298010 : True := trivial
theorem PySem.W.Fast.tw4114414753196543447 : True := trivial
theorem PySem.W.Fast.tw12194509462964451734 : True := trivial
theorem PySem.W.Fast.tw11219757064833795856 : True := trivial
theorem PySem.W.Fast.tw3060236196143586625 : True := trivial
theorem PySem.W.Fast.tw3761615074554303031 : True := trivial
theorem PySem.W.Fast.tw2479927723965752655 : True := trivial
theorem PySem.W.Fast.tw13658190254695953751 : True := trivial
theorem PySem.W.Fast.tw14876941333156166331 : True := trivial
theorem PySem.W.Fast.tw1690214746223899641 : True := trivial
theorem PySem.W.Fast.tw4608941098536908512 : True := trivial
theorem PySem.W.Fast.tw8852914183578906882 : True := trivial
theorem PySem.W.Fast.tw231737730183426963 : True := trivial
theorem PySem.W.Fast.tw16531697490065219626 : True := trivial
theorem PySem.W.Fast.tw7001108479085720560 : True := trivial
theorem PySem.W.Fast.tw17429413695712906919 : True := trivial
theorem PySem.W.Fast.tw3894211456786849414 : True := trivial
theorem PySem.W.Fast.tw16155845595525563201 : True := trivial
theorem PySem.W.Fast.tw157336530515265135 : True := trivial
theorem PySem.W.Fast.tw13590311690058548476 : True := trivial
theorem PySem.W.Fast.tw17484511754062218848 : True := trivial
theorem PySem.W.Fast.tw13492544663832799906 : True := trivial
theorem PySem.W.Fast.tw11056354916593010065 : True := trivial
theorem PySem.W.Fast.tw14282050266856999136 : True := trivial
theorem PySem.W.Fast.tw2930078568500949946 : True := trivial
theorem PySem.W.Fast.tw2280528962778943455 : True := trivial
theorem PySem.W.Fast.tw277375088317791442 : True := trivial
theorem PySem.W.Fast.tw12041901816063804782 : True := trivial
theorem PySem.W.Fast.tw3267210534782244142 : True := trivial
theorem PySem.W.Fast.tw384990318924611034 : True := trivial
theorem PySem.W.Fast.tw15791640737028843923 : True := trivial
theorem PySem.W.Fast.tw5615950997010530385 : True := trivial
theorem PySem.W.Fast.tw8084910169941491164 : True := trivial
theorem PySem.W.Fast.tw9998466010875659984 : True := trivial
theorem PySem.W.Fast.tw12724881225228448984 : True := trivial
theorem PySem.W.Fast.tw9536549180261114393 : True := trivial
theorem PySem.W.Fast.tw7817319820705852550 : True := trivial
theorem PySem.W.Fast.tw14717376360035831361 : True := trivial
theorem PySem.W.Fast.tw5453830199457617314 : True := trivial
theorem PySem.W.Fast.tw12815482356259955265 : True := trivial
theorem PySem.W.Fast.tw18343573099932541342 : True := trivial
theorem PySem.W.Fast.tw16044930293495552380 : True := trivial
theorem PySem.W.Fast.tw16309464678281572398 : True := trivial
theorem PySem.W.Fast.tw266166667461934516 : True := trivial
theorem PySem.W.Fast.tw12678013841725194730 : True := trivial
theorem PySem.W.Fast.tw3965934130044933304 : True := trivial
theorem PySem.W.Fast.tw15461907132016050045 : True := trivial
theorem PySem.W.Fast.tw8781374733724357879 : True := trivial
theorem PySem.W.Fast.tw12818655347917158697 : True := trivial
theorem PySem.W.Fast.tw339317312077909288 : True := trivial
theorem PySem.W.Fast.tw11336086557053775560 : True := trivial
theorem PySem.W.Fast.tw12871121283336653900 : True := trivial
theorem PySem.W.Fast.tw12690423277170340443 : True := trivial
theorem PySem.W.Fast.tw15243099342955778978 : True := trivial
theorem PySem.W.Fast.tw6535352709775298954 : True := trivial
theorem PySem.W.Fast.tw8248581726143282187 : True := trivial
theorem PySem.W.Fast.tw6475272399588503318 : True := trivial
theorem PySem.W.Fast.tw8172144350714441445 : True := trivial
theorem PySem.W.Fast.tw12598216068928952879 : True := trivial
theorem PySem.W.Fast.tw4214283259728909684 : True := trivial
theorem PySem.W.Fast.tw11503402606439243464 : True := trivial
theorem PySem.W.Fast.tw467126628052661155 : True := trivial
theorem PySem.W.Fast.tw9707202116725753715 : True := trivial
theorem PySem.W.Fast.tw11035791505212057473 : True := trivial
theorem PySem.W.Fast.tw3423847311047535266 : True := trivial
theorem PySem.W.Fast.tw7344464058349692365 : True := trivial
theorem PySem.W.Fast.tw7132643262515889564 : True := trivial
theorem PySem.W.Fast.tw5969379779912132663 : True := trivial
theorem PySem.W.Fast.tw5409412253388050119 : True := trivial
theorem PySem.W.Fast.tw4743866188977386094 : True := trivial
theorem PySem.W.Fast.tw9479222872415073094 : True := trivial
theorem PySem.W.Fast.tw10541220025732679222 : True := trivial
theorem PySem.W.Fast.tw13933844675058554314 : True := trivial
theorem PySem.W.Fast.tw10496608513911313758 : True := trivial
theorem PySem.W.Fast.tw15873167032694576379 : True := trivial
theorem PySem.W.Fast.tw3835930874740289104 : True := trivial
theorem PySem.W.Fast.tw7882278281813666305 : True := trivial
theorem PySem.W.Fast.tw13303728375643173668 : True := trivial
theorem PySem.W.Fast.tw11440761883699841358 : True := trivial
theorem PySem.W.Fast.tw9266846715973524724 : True := trivial
theorem PySem.W.Fast.tw271301054833544172 : True := trivial
theorem PySem.W.Fast.tw7593687946707270285 : True := trivial
theorem PySem.W.Fast.tw255337346113236500 : True := trivial
theorem PySem.W.Fast.tw17119081757000468121 : True := trivial
theorem PySem.W.Fast.tw6470126707180894028 : True := trivial
theorem PySem.W.Fast.tw861535270792155711 : True := trivial
theorem PySem.W.Fast.tw7462203345752504300 : True := trivial
theorem PySem.W.Fast.tw10288557500759782707 : True := trivial
theorem PySem.W.Fast.tw4233134593426798175 : True := trivial
theorem PySem.W.Fast.tw1664888019335050874 : True := trivial
theorem PySem.W.Fast.tw16115178751715081901 : True := trivial
theorem PySem.W.Fast.tw12721587140742565975 : True := trivial
theorem PySem.W.Fast.tw1280672069567443843 : True := trivial
theorem PySem.W.Fast.tw16145499809326170841 : True := trivial
theorem PySem.W.Fast.tw16494452358472643332 : True := trivial
theorem PySem.W.Fast.tw16363190695618352625 : True := trivial
theorem PySem.W.Fast.tw11663092676084345710 : True := trivial
theorem PySem.W.Fast.tw5703647791053273635 : True := trivial
theorem PySem.W.Fast.tw4268773672851032725 : True := trivial
theorem PySem.W.Fast.tw15462931226170184255 : True := trivial
theorem PySem.W.Fast.tw9814826233152622343 : True := trivial
theorem PySem.W.Fast.tw13754335181789633967 : True := trivial
theorem PySem.W.Fast.tw8456540796860846735 : True := trivial
theorem PySem.W.Fast.tw2690605078807588530 : True := trivial
theorem PySem.W.Fast.tw7872693593819709486 : True := trivial
theorem PySem.W.Fast.tw16924898975132223539 : True := trivial
theorem PySem.W.Fast.tw3518119770945550341 : True := trivial
theorem PySem.W.Fast.tw12177840051062755020 : True := trivial
theorem PySem.W.Fast.tw17522421443358577037 : True := trivial
theorem PySem.W.Fast.tw10564816890156080974 : True := trivial
theorem PySem.W.Fast.tw323792922235972669 : True := trivial
theorem PySem.W.Fast.tw184535239669614387 : True := trivial
theorem PySem.W.Fast.tw17992676146150662842 : True := trivial
theorem PySem.W.Fast.tw10010941759333017105 : True := trivial
theorem PySem.W.Fast.tw7975843880615399943 : True := trivial
theorem PySem.W.Fast.tw2904526172935072752 : True := trivial
theorem PySem.W.Fast.tw6669131772927420047 : True := trivial
theorem PySem.W.Fast.tw13888560784283442210 : True := trivial
theorem PySem.W.Fast.tw4097171742876771885 : True := trivial
theorem PySem.W.Fast.tw1440084683128096753 : True := trivial
theorem PySem.W.Fast.tw18104742489753447361 : True := trivial
theorem PySem.W.Fast.tw9840346366837598363 : True := trivial
theorem PySem.W.Fast.tw13011728506189930651 : True := trivial
theorem PySem.W.Fast.tw2432441741882576368 : True := trivial
theorem PySem.W.Fast.tw2311953635492971820 : True := trivial
theorem PySem.W.Fast.tw6496666558773583520 : True := trivial
theorem PySem.W.Fast.tw815281819170897931 : True := trivial
theorem PySem.W.Fast.tw1351855857318067054 : True := trivial
theorem PySem.W.Fast.tw14125994111649778000 : True := trivial
theorem PySem.W.Fast.tw12833041302502770378 : True := trivial
theorem PySem.W.Fast.tw10221550562329812176 : True := trivial
theorem PySem.W.Fast.tw10492929510670051228 : True := trivial
theorem PySem.W.Fast.tw12347440005741512652 : True := trivial
theorem PySem.W.Fast.tw8191113580194370578 : True := trivial
theorem PySem.W.Fast.tw14100035171444984587 : True := trivial
theorem PySem.W.Fast.tw15868250167231129858 : True := trivial
theorem PySem.W.Fast.tw7165744049736130341 : True := trivial
theorem PySem.W.Fast.tw10444716548313624306 : True := trivial
theorem PySem.W.Fast.tw4634196327310641169 : True := trivial
theorem PySem.W.Fast.tw1607590561670257254 : True := trivial
theorem PySem.W.Fast.tw7738787402804374655 : True := trivial
theorem PySem.W.Fast.tw6020757009896195786 : True := trivial
theorem PySem.W.Fast.tw5479519323084859219 : True := trivial
theorem PySem.W.Fast.tw15693977006707210484 : True := trivial
theorem PySem.W.Fast.tw13528859208814179476 : True := trivial
theorem PySem.W.Fast.tw12719294563108049805 : True := trivial
theorem PySem.W.Fast.tw14234615157312328286 : True := trivial
theorem PySem.W.Fast.tw6671563914319624714 : True := trivial
theorem PySem.W.Fast.tw5903353194966979646 : True := trivial
theorem PySem.W.Fast.tw853921721227465220 : True := trivial
theorem PySem.W.Fast.tw11527900643937156792 : True := trivial
theorem PySem.W.Fast.tw12386587152749624419 : True := trivial
theorem PySem.W.Fast.tw10301941429274687318 : True := trivial
theorem PySem.W.Fast.tw10006063588014552688 : True := trivial
theorem PySem.W.Fast.tw2420958602320573650 : True := trivial
theorem PySem.W.Fast.tw1012328721469811544 : True := trivial
theorem PySem.W.Fast.tw9585428355526663609 : True := trivial
theorem PySem.W.Fast.tw12289065060765931432 : True := trivial
theorem PySem.W.Fast.tw9674189547397866870 : True := trivial
theorem PySem.W.Fast.tw17034136634272486612 : True := trivial
theorem PySem.W.Fast.tw7086491229999547231 : True := trivial
theorem PySem.W.Fast.tw14162970671635817651 : True := trivial
theorem PySem.W.Fast.tw6861046744477585575 : True := trivial
theorem PySem.W.Fast.tw1647846227688924241 : True := trivial
theorem PySem.W.Fast.tw7035141595273818899 : True := trivial
theorem PySem.W.Fast.tw17376031931756190387 : True := trivial
theorem PySem.W.Fast.tw7419821852784964342 : True := trivial
theorem PySem.W.Fast.tw3135490126834817663 : True := trivial
theorem PySem.W.Fast.tw11725912972833202495 : True := trivial
theorem PySem.W.Fast.tw1040611160021230697 : True := trivial
theorem PySem.W.Fast.tw2540303248471470463 : True := trivial
theorem PySem.W.Fast.tw6707992634607711608 : True := trivial
theorem PySem.W.Fast.tw5530643278819637507 : True := trivial
theorem PySem.W.Fast.tw2167587822225861934 : True := trivial
theorem PySem.W.Fast.tw12168471947320527831 : True := trivial
theorem PySem.W.Fast.tw9117635775475294722 : True := trivial
theorem PySem.W.Fast.tw9379077667689127521 : True := trivial
theorem PySem.W.Fast.tw15469124132414781817 : True := trivial
theorem PySem.W.Fast.tw18424022038234302959 : True := trivial
theorem PySem.W.Fast.tw7577095744840080982 : True := trivial
theorem PySem.W.Fast.tw18136810914702833213 : True := trivial
theorem PySem.W.Fast.tw10720405544750229744 : True := trivial
theorem PySem.W.Fast.tw3850731927983930722 : True := trivial
theorem PySem.W.Fast.tw9362243117177202383 : True := trivial
theorem PySem.W.Fast.tw3726752731925104048 : True := trivial
theorem PySem.W.Fast.tw14000955637650199655 : True := trivial
theorem PySem.W.Fast.tw11091288612169868228 : True := trivial
theorem PySem.W.Fast.tw13974916806097775631 : True := trivial
theorem PySem.W.Fast.tw14506258655964212255 : True := trivial
theorem PySem.W.Fast.tw2298732774404558624 : True := trivial
theorem PySem.W.Fast.tw6293040747744303371 : True := trivial
theorem PySem.W.Fast.tw17313736581071954638 : True := trivial
theorem PySem.W.Fast.tw9699700908122275571 : True := trivial
theorem PySem.W.Fast.tw2261464933058407505 : True := trivial
theorem PySem.W.Fast.tw4304901961662447858 : True := trivial
theorem PySem.W.Fast.tw10259002185681801318 : True := trivial
theorem PySem.W.Fast.tw17083465835263868001 : True := trivial
theorem PySem.W.Fast.tw4497168416196079016 : True := trivial
theorem PySem.W.Fast.tw16321050569379591391 : True := trivial
theorem PySem.W.Fast.tw18104717525336667841 : True := trivial
theorem PySem.W.Fast.tw11997064149510023495 : True := trivial
theorem PySem.W.Fast.tw7041866933406102686 : True := trivial
theorem PySem.W.Fast.tw12702419054343521278 : True := trivial
theorem PySem.W.Fast.tw9481354001352782336 : True := trivial
theorem PySem.W.Fast.tw5506154489276707253 : True := trivial
theorem PySem.W.Fast.tw16075393935860578795 : True := trivial
theorem PySem.W.Fast.tw17974594445846802469 : True := trivial
theorem PySem.W.Fast.tw12569196129918297275 : True := trivial
theorem PySem.W.Fast.tw17774316104075754254 : True := trivial
theorem PySem.W.Fast.tw2754672726563336893 : True := trivial
theorem PySem.W.Fast.tw16913628801129214583 : True := trivial
theorem PySem.W.Fast.tw15020980074810795002 : True := trivial
theorem PySem.W.Fast.tw447376774025640165 : True := trivial
theorem PySem.W.Fast.tw8388327049350375016 : True := trivial
theorem PySem.W.Fast.tw8111749926627852110 : True := trivial
theorem PySem.W.Fast.tw13469613641173181419 : True := trivial
theorem PySem.W.Fast.tw1635050318007732825 : True := trivial
theorem PySem.W.Fast.tw2376522695230387368 : True := trivial
theorem PySem.W.Fast.tw10306270048663309373 : True := trivial
theorem PySem.W.Fast.tw818944397113146757 : True := trivial
theorem PySem.W.Fast.tw11696806367993752554 : True := trivial
theorem PySem.W.Fast.tw5923420881249417063 : True := trivial
theorem PySem.W.Fast.tw6490188911242664548 : True := trivial
theorem PySem.W.Fast.tw13014098156659716419 : True := trivial
theorem PySem.W.Fast.tw2728732931890404454 : True := trivial
theorem PySem.W.Fast.tw4073660080945162395 : True := trivial
theorem PySem.W.Fast.tw16948879411769628862 : True := trivial
theorem PySem.W.Fast.tw12031674180078159409 : True := trivial
theorem PySem.W.Fast.tw4549868187128595963 : True := trivial
theorem PySem.W.Fast.tw3497039071001715772 : True := trivial
theorem PySem.W.Fast.tw11107520909725958249 : True := trivial
theorem PySem.W.Fast.tw2723710668068058626 : True := trivial
theorem PySem.W.Fast.tw8326066908457027211 : True := trivial
theorem PySem.W.Fast.tw1625023232547248762 : True := trivial
theorem PySem.W.Fast.tw15733948930431182384 : True := trivial
theorem PySem.W.Fast.tw14893908424154150834 : True := trivial
theorem PySem.W.Fast.tw8443584227551519456 : True := trivial
theorem PySem.W.Fast.tw5615037529237176197 : True := trivial
theorem PySem.W.Fast.tw9025592488148232710 : True := trivial
theorem PySem.W.Fast.tw10689455915296933920 : True := trivial
theorem PySem.W.Fast.tw13916698419616108832 : True := trivial
theorem PySem.W.Fast.tw9616809840875124929 : True := trivial
theorem PySem.W.Fast.tw14109206416196474761 : True := trivial
theorem PySem.W.Fast.tw13643115927640876656 : True := trivial
theorem PySem.W.Fast.tw14911233064329474373 : True := trivial
theorem PySem.W.Fast.tw3920982212516253515 : True := trivial
theorem PySem.W.Fast.tw7407384453579060659 : True := trivial
theorem PySem.W.Fast.tw17505413724791173162 : True := trivial
theorem PySem.W.Fast.tw6076982867440751160 : True := trivial
theorem PySem.W.Fast.tw3534357861119308715 : True := trivial
theorem PySem.W.Fast.tw4388043225778634368 : True := trivial
theorem PySem.W.Fast.tw1960311940867853473 : True := trivial
theorem PySem.W.Fast.tw10409634981043376657 : True := trivial
theorem PySem.W.Fast.tw2811575253155397313 : True := trivial
theorem PySem.W.Fast.tw7276676904907486158 : True := trivial
theorem PySem.W.Fast.tw8565812950065863052 : True := trivial
theorem PySem.W.Fast.tw3504653251482441890 : True := trivial
theorem PySem.W.Fast.tw7846310196832329362 : True := trivial
theorem PySem.W.Fast.tw4552913264776844420 : True := trivial
theorem PySem.W.Fast.tw5333028924742364942 : True := trivial
theorem PySem.W.Fast.tw9213597818513418352 : True := trivial
theorem PySem.W.Fast.tw7161186005152058688 : True := trivial
theorem PySem.W.Fast.tw8431635711534513103 : True := trivial
theorem PySem.W.Fast.tw8317188958393046917 : True := trivial
theorem PySem.W.Fast.tw15427340317292004503 : True := trivial
theorem PySem.W.Fast.tw4192102996311206968 : True := trivial
theorem PySem.W.Fast.tw15036093929175812418 : True := trivial
theorem PySem.W.Fast.tw8052600217541175066 : True := trivial
theorem PySem.W.Fast.tw589637740390557095 : True := trivial
theorem PySem.W.Fast.tw17869821826993297001 : True := trivial
theorem PySem.W.Fast.tw2791109515797539733 : True := trivial
theorem PySem.W.Fast.tw9974962706971589735 : True := trivial
theorem PySem.W.Fast.tw17932492768646470336 : True := trivial
theorem PySem.W.Fast.tw14008167105767065598 : True := trivial
theorem PySem.W.Fast.tw18021037130820317612 : True := trivial
theorem PySem.W.Fast.tw3582498914172147260 : True := trivial
theorem PySem.W.Fast.tw9763617147968676685 : True := trivial
theorem PySem.W.Fast.tw13683363014303339452 : True := trivial
theorem PySem.W.Fast.tw17220643934190946709 : True := trivial
theorem PySem.W.Fast.tw9971684282381760265 : True := trivial
theorem PySem.W.Fast.tw12538916272945497528 : True := trivial
theorem PySem.W.Fast.tw4303858973458688906 : True := trivial
theorem PySem.W.Fast.tw5128373142021716281 : True := trivial
theorem PySem.W.Fast.tw6310755614161908756 : True := trivial
theorem PySem.W.Fast.tw16708042864854877566 : True := trivial
theorem PySem.W.Fast.tw2088555484186215596 : True := trivial
theorem PySem.W.Fast.tw12046827264609877684 : True := trivial
theorem PySem.W.Fast.tw213209821226904698 : True := trivial
theorem PySem.W.Fast.tw12456276485642475085 : True := trivial
theorem PySem.W.Fast.tw8121654358160365353 : True := trivial
theorem PySem.W.Fast.tw5004147094860488699 : True := trivial
theorem PySem.W.Fast.tw10427935719347937346 : True := trivial
theorem PySem.W.Fast.tw10716091161860362128 : True := trivial
theorem PySem.W.Fast.tw8957505243082772528 : True := trivial
theorem PySem.W.Fast.tw15047872629448660932 : True := trivial
theorem PySem.W.Fast.tw1491189504145854066 : True := trivial
theorem PySem.W.Fast.tw1751789227582224995 : True := trivial
theorem PySem.W.Fast.tw14667655148726022639 : True := trivial
theorem PySem.W.Fast.tw6088425250444207285 : True := trivial
theorem PySem.W.Fast.tw9930291802339362696 : True := trivial
theorem PySem.W.Fast.tw10619216418285976870 : True := trivial
theorem PySem.W.Fast.tw5160218151134544918 : True := trivial
theorem PySem.W.Fast.tw3231505079768319814 : True := trivial
theorem PySem.W.Fast.tw16471416953393407514 : True := trivial
theorem PySem.W.Fast.tw17938514177559175552 : True := trivial
theorem PySem.W.Fast.tw1258986264144926098 : True := trivial
theorem PySem.W.Fast.tw15852096413911566091 : True := trivial
theorem PySem.W.Fast.tw14589598548792155766 : True := trivial
theorem PySem.W.Fast.tw15241282191880326478 : True := trivial
theorem PySem.W.Fast.tw1881408488732290171 : True := trivial
theorem PySem.W.Fast.tw10932673138930396714 : True := trivial
theorem PySem.W.Fast.tw13948837773151308127 : True := trivial
theorem PySem.W.Fast.tw5730272307602284272 : True := trivial
theorem PySem.W.Fast.tw7155136503050329405 : True := trivial
theorem PySem.W.Fast.tw2986568038737489934 : True := trivial
theorem PySem.W.Fast.tw2200348953605056923 : True := trivial
theorem PySem.W.Fast.tw7525492416152309221 : True := trivial
theorem PySem.W.Fast.tw1174918955161716573 : True := trivial
theorem PySem.W.Fast.tw1141819752333769271 : True := trivial
theorem PySem.W.Fast.tw1412075928933105157 : True := trivial
theorem PySem.W.Fast.tw5912916175106567255 : True := trivial
theorem PySem.W.Fast.tw527818620889879375 : True := trivial
theorem PySem.W.Fast.tw13234381260518586952 : True := trivial
theorem PySem.W.Fast.tw12317304781087898259 : True := trivial
theorem PySem.W.Fast.tw6869508169759579781 : True := trivial
theorem PySem.W.Fast.tw13384625691279671588 : True := trivial
theorem PySem.W.Fast.tw11839116010898134849 : True := trivial
theorem PySem.W.Fast.tw6306205454239052805 : True := trivial
theorem PySem.W.Fast.tw17445672303512562992 : True := trivial
theorem PySem.W.Fast.tw7775884454160455343 : True := trivial
theorem PySem.W.Fast.tw9079299502188059926 : True := trivial
theorem PySem.W.Fast.tw1905567459335631690 : True := trivial
theorem PySem.W.Fast.tw5175737155317427702 : True := trivial
theorem PySem.W.Fast.tw12704544140271919126 : True := trivial
theorem PySem.W.Fast.tw3492082943864394900 : True := trivial
theorem PySem.W.Fast.tw2341472743080918688 : True := trivial
theorem PySem.W.Fast.tw5016084779790345318 : True := trivial
theorem PySem.W.Fast.tw3534894711991360146 : True := trivial
theorem PySem.W.Fast.tw4100040374252135859 : True := trivial
theorem PySem.W.Fast.tw12624934349729877443 : True := trivial
theorem PySem.W.Fast.tw15964853868047215044 : True := trivial
theorem PySem.W.Fast.tw1553765841602127982 : True := trivial
theorem PySem.W.Fast.tw12897406974235992569 : True := trivial
theorem PySem.W.Fast.tw5500276295676061371 : True := trivial
theorem PySem.W.Fast.tw4724938347731420517 : True := trivial
theorem PySem.W.Fast.tw11046698442710509283 : True := trivial
theorem PySem.W.Fast.tw5380905149844513681 : True := trivial
theorem PySem.W.Fast.tw2350684061534759518 : True := trivial
theorem PySem.W.Fast.tw15152352335623004363 : True := trivial
theorem PySem.W.Fast.tw9195900569060812580 : True := trivial
theorem PySem.W.Fast.tw15707165807148827664 : True := trivial
theorem PySem.W.Fast.tw6148562097834152637 : True := trivial
theorem PySem.W.Fast.tw2132893284368311647 : True := trivial
theorem PySem.W.Fast.tw11751746639091178234 : True := trivial
theorem PySem.W.Fast.tw17932110845016676343 : True := trivial
theorem PySem.W.Fast.tw3174375999677411943 : True := trivial
theorem PySem.W.Fast.tw12146466662645403018 : True := trivial
theorem PySem.W.Fast.tw11285778365002443819 : True := trivial
theorem PySem.W.Fast.tw17734267417753703524 : True := trivial
theorem PySem.W.Fast.tw3582883581136679565 : True := trivial
theorem PySem.W.Fast.tw3864533235605076444 : True := trivial
theorem PySem.W.Fast.tw14050541462171950060 : True := trivial
theorem PySem.W.Fast.tw5065660248757606427 : True := trivial
theorem PySem.W.Fast.tw9169417546785374613 : True := trivial
theorem PySem.W.Fast.tw4813726226322465929 : True := trivial
theorem PySem.W.Fast.tw716867880444377263 : True := trivial
theorem PySem.W.Fast.tw9303100059282434536 : True := trivial
theorem PySem.W.Fast.tw14509086595514191565 : True := trivial
theorem PySem.W.Fast.tw7221500190539122755 : True := trivial
theorem PySem.W.Fast.tw18278434129374960904 : True := trivial
theorem PySem.W.Fast.tw38199481484667075 : True := trivial
theorem PySem.W.Fast.tw4061914429077500801 : True := trivial
theorem PySem.W.Fast.tw2134578798710228596 : True := trivial
theorem PySem.W.Fast.tw10431855798828654174 : True := trivial
theorem PySem.W.Fast.tw17242901096458521235 : True := trivial
theorem PySem.W.Fast.tw15504185955101667066 : True := trivial
theorem PySem.W.Fast.tw4577990892799679577 : True := trivial
theorem PySem.W.Fast.tw16529631281865489606 : True := trivial
theorem PySem.W.Fast.tw6861562562641388320 : True := trivial
theorem PySem.W.Fast.tw5724198723325136194 : True := trivial
theorem PySem.W.Fast.tw2204916991209409903 : True := trivial
theorem PySem.W.Fast.tw4507920730222613821 : True := trivial
theorem PySem.W.Fast.tw6621406505373097092 : True := trivial
theorem PySem.W.Fast.tw7406267256726136460 : True := trivial
theorem PySem.W.Fast.tw14451679020810295292 : True := trivial
theorem PySem.W.Fast.tw4777234972532571368 : True := trivial
theorem PySem.W.Fast.tw1438495260347721436 : True := trivial
theorem PySem.W.Fast.tw9083316288558850458 : True := trivial
theorem PySem.W.Fast.tw2863319602868817000 : True := trivial
theorem PySem.W.Fast.tw7951823901493876352 : True := trivial
theorem PySem.W.Fast.tw6410502161845423767 : True := trivial
theorem PySem.W.Fast.tw4716330989384074651 : True := trivial
theorem PySem.W.Fast.tw9989866890899679393 : True := trivial
theorem PySem.W.Fast.tw17217954465811613792 : True := trivial
theorem PySem.W.Fast.tw8261655014697726061 : True := trivial
theorem PySem.W.Fast.tw8668612743407857950 : True := trivial
theorem PySem.W.Fast.tw1768793791977769248 : True := trivial
theorem PySem.W.Fast.tw15581754955694111423 : True := trivial
theorem PySem.W.Fast.tw6442769871820771452 : True := trivial
theorem PySem.W.Fast.tw16131305101574094565 : True := trivial
theorem PySem.W.Fast.tw4867615672606044168 : True := trivial
theorem PySem.W.Fast.tw16737454977172447701 : True := trivial
theorem PySem.W.Fast.tw3469863999751276328 : True := trivial
theorem PySem.W.Fast.tw13884139063819175837 : True := trivial
theorem PySem.W.Fast.tw771795992772787313 : True := trivial
theorem PySem.W.Fast.tw11934717338536821034 : True := trivial
theorem PySem.W.Fast.tw6682080092638201421 : True := trivial
theorem PySem.W.Fast.tw2838419583631941941 : True := trivial
theorem PySem.W.Fast.tw16798034458686348161 : True := trivial
theorem PySem.W.Fast.tw2900318680798856708 : True := trivial
theorem PySem.W.Fast.tw9447717937247771779 : True := trivial
theorem PySem.W.Fast.tw3663653040775722578 : True := trivial
theorem PySem.W.Fast.tw9005268262485854117 : True := trivial
theorem PySem.W.Fast.tw2833571810627619416 : True := trivial
theorem PySem.W.Fast.tw4443045596457459320 : True := trivial
theorem PySem.W.Fast.tw6210691060650561188 : True := trivial
theorem PySem.W.Fast.tw1102108759443702223 : True := trivial
theorem PySem.W.Fast.tw13720173439958140380 : True := trivial
theorem PySem.W.Fast.tw3940885032711719194 : True := trivial
theorem PySem.W.Fast.tw11576817035101315188 : True := trivial
theorem PySem.W.Fast.tw15476293823296178767 : True := trivial
theorem PySem.W.Fast.tw2762502884755301941 : True := trivial
theorem PySem.W.Fast.tw5614071125238149094 : True := trivial
theorem PySem.W.Fast.tw5852230826613437130 : True := trivial
theorem PySem.W.Fast.tw14003093361385872737 : True := trivial
theorem PySem.W.Fast.tw7431669214008466883 : True := trivial
theorem PySem.W.Fast.tw1737596708758420725 : True := trivial
theorem PySem.W.Fast.tw7888301030023986016 : True := trivial
theorem PySem.W.Fast.tw11139226505895618011 : True := trivial
theorem PySem.W.Fast.tw97202648282188875 : True := trivial
theorem PySem.W.Fast.tw11124187230625483664 : True := trivial
theorem PySem.W.Fast.tw1073375114824106964 : True := trivial
theorem PySem.W.Fast.tw13560274355783272005 : True := trivial
theorem PySem.W.Fast.tw5911596610927432367 : True := trivial
theorem PySem.W.Fast.tw17243774836672401688 : True := trivial
theorem PySem.W.Fast.tw751380558844412207 : True := trivial
theorem PySem.W.Fast.tw10639863881253714115 : True := trivial
theorem PySem.W.Fast.tw15037472149408423473 : True := trivial
theorem PySem.W.Fast.tw1043068042032761864 : True := trivial
theorem PySem.W.Fast.tw3545093368235409179 : True := trivial
theorem PySem.W.Fast.tw3693814143721022041 : True := trivial
theorem PySem.W.Fast.tw1196087058710267122 : True := trivial
theorem PySem.W.Fast.tw1803205043801132712 : True := trivial
theorem PySem.W.Fast.tw15944209749816759826 : True := trivial
theorem PySem.W.Fast.tw13960742400307539379 : True := trivial
theorem PySem.W.Fast.tw7522938467528059880 : True := trivial
theorem PySem.W.Fast.tw8046799740602444530 : True := trivial
theorem PySem.W.Fast.tw6689621421015088826 : True := trivial
theorem PySem.W.Fast.tw11258230615505348365 : True := trivial
theorem PySem.W.Fast.tw10363457987918882964 : True := trivial
theorem PySem.W.Fast.tw12991017718773120768 : True := trivial
theorem PySem.W.Fast.tw240661511876630392 : True := trivial
theorem PySem.W.Fast.tw7838270053342448967 : True := trivial
theorem PySem.W.Fast.tw17356557077604599000 : True := trivial
theorem PySem.W.Fast.tw17788983076136829169 : True := trivial
theorem PySem.W.Fast.tw8482400138656141640 : True := trivial
theorem PySem.W.Fast.tw2960036471574595469 : True := trivial
theorem PySem.W.Fast.tw1196514246279261578 : True := trivial
theorem PySem.W.Fast.tw6944891477915405313 : True := trivial
theorem PySem.W.Fast.tw375702562677678331 : True := trivial
theorem PySem.W.Fast.tw10295480189255101665 : True := trivial
theorem PySem.W.Fast.tw7566154422003881178 : True := trivial
theorem PySem.W.Fast.tw15618580723272418584 : True := trivial
theorem PySem.W.Fast.tw4750730832603928676 : True := trivial
theorem PySem.W.Fast.tw18323737119088097322 : True := trivial
theorem PySem.W.Fast.tw9223562531767365933 : True := trivial
theorem PySem.W.Fast.tw2590587920078673095 : True := trivial
theorem PySem.W.Fast.tw15883914035382625877 : True := trivial
theorem PySem.W.Fast.tw10092539241513866104 : True := trivial
theorem PySem.W.Fast.tw1365283149781888500 : True := trivial
theorem PySem.W.Fast.tw7399563170258271283 : True := trivial
theorem PySem.W.Fast.tw13853912959957428812 : True := trivial
theorem PySem.W.Fast.tw12220703652395000354 : True := trivial
theorem PySem.W.Fast.tw16951846718078305903 : True := trivial
theorem PySem.W.Fast.tw15181136141086334383 : True := trivial
theorem PySem.W.Fast.tw10446076790033302504 : True := trivial
theorem PySem.W.Fast.tw709590774727409457 : True := trivial
theorem PySem.W.Fast.tw5962034473541280975 : True := trivial
theorem PySem.W.Fast.tw17238582525059713465 : True := trivial
theorem PySem.W.Fast.tw16250712550344430554 : True := trivial
theorem PySem.W.Fast.tw5918371400150690863 : True := trivial
theorem PySem.W.Fast.tw12108848191572255264 : True := trivial
theorem PySem.W.Fast.tw12077437478969071457 : True := trivial
theorem PySem.W.Fast.tw1836219276493693492 : True := trivial
theorem PySem.W.Fast.tw15913410165703853072 : True := trivial
theorem PySem.W.Fast.tw6451431491420205428 : True := trivial
theorem PySem.W.Fast.tw2477773143675337472 : True := trivial
theorem PySem.W.Fast.tw10345539308781620475 : True := trivial
theorem PySem.W.Fast.tw7931419498243500189 : True := trivial
theorem PySem.W.Fast.tw8763152030225660642 : True := trivial
theorem PySem.W.Fast.tw18106318497599839394 : True := trivial
theorem PySem.W.Fast.tw15245373818144225679 : True := trivial
theorem PySem.W.Fast.tw1356501274657724971 : True := trivial
theorem PySem.W.Fast.tw12977290051197400172 : True := trivial
theorem PySem.W.Fast.tw16399921407515932968 : True := trivial
theorem PySem.W.Fast.tw7038841116749110301 : True := trivial
theorem PySem.W.Fast.tw998585863392403397 : True := trivial
theorem PySem.W.Fast.tw16190674433772403058 : True := trivial
theorem PySem.W.Fast.tw11901733355787494503 : True := trivial
theorem PySem.W.Fast.tw1765105867092122623 : True := trivial
theorem PySem.W.Fast.tw5307562424583060976 : True := trivial
theorem PySem.W.Fast.tw15417598181956292547 : True := trivial
theorem PySem.W.Fast.tw9510581028516038562 : True := trivial
theorem PySem.W.Fast.tw8656469029646108994 : True := trivial
theorem PySem.W.Fast.tw3582393761201198406 : True := trivial
theorem PySem.W.Fast.tw9978339203306483159 : True := trivial
theorem PySem.W.Fast.tw16572737183937138526 : True := trivial
theorem PySem.W.Fast.tw15139444105600447390 : True := trivial
theorem PySem.W.Fast.tw5063832131308398475 : True := trivial
theorem PySem.W.Fast.tw2223980233205515659 : True := trivial
theorem PySem.W.Fast.tw7100205303463364315 : True := trivial
theorem PySem.W.Fast.tw14348171866865552284 : True := trivial
theorem PySem.W.Fast.tw13948998759506233428 : True := trivial
theorem PySem.W.Fast.tw13229083558787628119 : True := trivial
theorem PySem.W.Fast.tw16581691194743578946 : True := trivial
theorem PySem.W.Fast.tw12715480413348787544 : True := trivial
theorem PySem.W.Fast.tw66493667447949280 : True := trivial
theorem PySem.W.Fast.tw2944929545231320341 : True := trivial
theorem PySem.W.Fast.tw3352932019189718938 : True := trivial
theorem PySem.W.Fast.tw3829981061110828411 : True := trivial
theorem PySem.W.Fast.tw1325480707620038890 : True := trivial
theorem PySem.W.Fast.tw11479619788844492162 : True := trivial
theorem PySem.W.Fast.tw15854893330275886755 : True := trivial
theorem PySem.W.Fast.tw5355050960340645434 : True := trivial
theorem PySem.W.Fast.tw7642897414896530486 : True := trivial
theorem PySem.W.Fast.tw8938372278259570308 : True := trivial
theorem PySem.W.Fast.tw6799265285341346937 : True := trivial
theorem PySem.W.Fast.tw13965408306400089729 : True := trivial
theorem PySem.W.Fast.tw14456110336353170407 : True := trivial
theorem PySem.W.Fast.tw12777198983845647128 : True := trivial
theorem PySem.W.Fast.tw6236828546609705310 : True := trivial
theorem PySem.W.Fast.tw6370058337547333110 : True := trivial
theorem PySem.W.Fast.tw10883979802078430188 : True := trivial
theorem PySem.W.Fast.tw15527243313993566215 : True := trivial
theorem PySem.W.Fast.tw17809756212146759661 : True := trivial
theorem PySem.W.Fast.tw16338207665824336027 : True := trivial
theorem PySem.W.Fast.tw917664860877572759 : True := trivial
theorem PySem.W.Fast.tw16133934910841014593 : True := trivial
theorem PySem.W.Fast.tw401624860549927296 : True := trivial
theorem PySem.W.Fast.tw2000021860521055124 : True := trivial
theorem PySem.W.Fast.tw6056530714096821222 : True := trivial
theorem PySem.W.Fast.tw6358096259623110892 : True := trivial
theorem PySem.W.Fast.tw6931904883234985965 : True := trivial
theorem PySem.W.Fast.tw12596299249521723495 : True := trivial
theorem PySem.W.Fast.tw9088070654873930090 : True := trivial
theorem PySem.W.Fast.tw5170503194676169664 : True := trivial
theorem PySem.W.Fast.tw11377923271435006273 : True := trivial
theorem PySem.W.Fast.tw3081773513900133715 : True := trivial
theorem PySem.W.Fast.tw12924676205925559861 : True := trivial
theorem PySem.W.Fast.tw5201947279172141612 : True := trivial
theorem PySem.W.Fast.tw1064276056851577003 : True := trivial
theorem PySem.W.Fast.tw8072980314037800323 : True := trivial
theorem PySem.W.Fast.tw7595640721843648870 : True := trivial
theorem PySem.W.Fast.tw7490747312839212261 : True := trivial
theorem PySem.W.Fast.tw15459886743167115697 : True := trivial
theorem PySem.W.Fast.tw376578152355019690 : True := trivial
theorem PySem.W.Fast.tw13713573084333399544 : True := trivial
theorem PySem.W.Fast.tw8518847151046948958 : True := trivial
theorem PySem.W.Fast.tw8929288027602308808 : True := trivial
theorem PySem.W.Fast.tw2053003920066786091 : True := trivial
theorem PySem.W.Fast.tw11479984615413369154 : True := trivial
theorem PySem.W.Fast.tw14726333178651851274 : True := trivial
theorem PySem.W.Fast.tw3293927815747039000 : True := trivial
theorem PySem.W.Fast.tw2886384947423072577 : True := trivial
theorem PySem.W.Fast.tw13773793976396883666 : True := trivial
theorem PySem.W.Fast.tw6383061339542643283 : True := trivial
theorem PySem.W.Fast.tw3590786991862817602 : True := trivial
theorem PySem.W.Fast.tw15391408235618116641 : True := trivial
theorem PySem.W.Fast.tw7747111638890228653 : True := trivial
theorem PySem.W.Fast.tw15685212264852995357 : True := trivial
theorem PySem.W.Fast.tw14706573131117775328 : True := trivial
theorem PySem.W.Fast.tw18097018398857790795 : True := trivial
theorem PySem.W.Fast.tw14378277881700273384 : True := trivial
theorem PySem.W.Fast.tw9686433208179093025 : True := trivial
theorem PySem.W.Fast.tw4226213975035270926 : True := trivial
theorem PySem.W.Fast.tw9982730964571965419 : True := trivial
theorem PySem.W.Fast.tw7324919724722622791 : True := trivial
theorem PySem.W.Fast.tw1963035130651964809 : True := trivial
theorem PySem.W.Fast.tw872745490810670747 : True := trivial
theorem PySem.W.Fast.tw4091384966211111464 : True := trivial
theorem PySem.W.Fast.tw16763069712066904890 : True := trivial
theorem PySem.W.Fast.tw6829214023930961307 : True := trivial
theorem PySem.W.Fast.tw13215002203937393083 : True := trivial
theorem PySem.W.Fast.tw8040454958767993480 : True := trivial
theorem PySem.W.Fast.tw11293630816494991387 : True := trivial
theorem PySem.W.Fast.tw3684890783379606068 : True := trivial
theorem PySem.W.Fast.tw623505934058875329 : True := trivial
theorem PySem.W.Fast.tw14358083845804523933 : True := trivial
theorem PySem.W.Fast.tw8265902853540831707 : True := trivial
theorem PySem.W.Fast.tw12114159301922434819 : True := trivial
theorem PySem.W.Fast.tw12255024299307127509 : True := trivial
theorem PySem.W.Fast.tw16805311892004486645 : True := trivial
theorem PySem.W.Fast.tw14997755812802485445 : True := trivial
theorem PySem.W.Fast.tw8283630696842992526 : True := trivial
theorem PySem.W.Fast.tw691694166961156084 : True := trivial
theorem PySem.W.Fast.tw11294416305460825334 : True := trivial
theorem PySem.W.Fast.tw14694329593637377990 : True := trivial
theorem PySem.W.Fast.tw2652505279826262672 : True := trivial
theorem PySem.W.Fast.tw4028490165958467609 : True := trivial
theorem PySem.W.Fast.tw2853386372936044207 : True := trivial
theorem PySem.W.Fast.tw7676024264974266455 : True := trivial
theorem PySem.W.Fast.tw15019811836252999049 : True := trivial
theorem PySem.W.Fast.tw14528488881353242226 : True := trivial
theorem PySem.W.Fast.tw6987834967965357184 : True := trivial
theorem PySem.W.Fast.tw9594477235990661080 : True := trivial
theorem PySem.W.Fast.tw16569345783362576425 : True := trivial
theorem PySem.W.Fast.tw13173704768769909326 : True := trivial
theorem PySem.W.Fast.tw16816586129108827847 : True := trivial
theorem PySem.W.Fast.tw17637003306001824233 : True := trivial
theorem PySem.W.Fast.tw4110281699885302861 : True := trivial
theorem PySem.W.Fast.tw12329770042628107514 : True := trivial
theorem PySem.W.Fast.tw1399163423985953619 : True := trivial
theorem PySem.W.Fast.tw6474947355424812492 : True := trivial
theorem PySem.W.Fast.tw5744554773360449851 : True := trivial
theorem PySem.W.Fast.tw14540358201930545069 : True := trivial
theorem PySem.W.Fast.tw6781614506269676798 : True := trivial
theorem PySem.W.Fast.tw7904189311129333277 : True := trivial
theorem PySem.W.Fast.tw6458054770165368258 : True := trivial
theorem PySem.W.Fast.tw17607952874695830817 : True := trivial
theorem PySem.W.Fast.tw11609240766107614093 : True := trivial
theorem PySem.W.Fast.tw13467710891751128960 : True := trivial
theorem PySem.W.Fast.tw16892433697343574826 : True := trivial
theorem PySem.W.Fast.tw15490241263762820841 : True := trivial
theorem PySem.W.Fast.tw6754353172644677556 : True := trivial
theorem PySem.W.Fast.tw110483334339095924 : True := trivial
theorem PySem.W.Fast.tw11120065462258725902 : True := trivial
theorem PySem.W.Fast.tw13446892326155683636 : True := trivial
theorem PySem.W.Fast.tw4879312405372597808 : True := trivial
theorem PySem.W.Fast.tw1691211787425630550 : True := trivial
theorem PySem.W.Fast.tw13492586448648588490 : True := trivial
theorem PySem.W.Fast.tw8813699082200186741 : True := trivial
theorem PySem.W.Fast.tw18243829611634014512 : True := trivial
theorem PySem.W.Fast.tw12543466774110414347 : True := trivial
theorem PySem.W.Fast.tw5411625864756146959 : True := trivial
theorem PySem.W.Fast.tw6413955839402567419 : True := trivial
theorem PySem.W.Fast.tw15872277243381666835 : True := trivial
theorem PySem.W.Fast.tw696707085905164908 : True := trivial
theorem PySem.W.Fast.tw11845072532931381749 : True := trivial
theorem PySem.W.Fast.tw14713111303563259186 : True := trivial
theorem PySem.W.Fast.tw6045723855330167504 : True := trivial
theorem PySem.W.Fast.tw15598875393275771268 : True := trivial
theorem PySem.W.Fast.tw10090887590613266351 : True := trivial
theorem PySem.W.Fast.tw167588359557081515 : True := trivial
theorem PySem.W.Fast.tw5566670545925370829 : True := trivial
theorem PySem.W.Fast.tw7417000652481148342 : True := trivial
theorem PySem.W.Fast.tw7506549941726148363 : True := trivial
theorem PySem.W.Fast.tw15168517019902061943 : True := trivial
theorem PySem.W.Fast.tw6888309875988237607 : True := trivial
theorem PySem.W.Fast.tw9663288927815827684 : True := trivial
theorem PySem.W.Fast.tw2350884423505789548 : True := trivial
theorem PySem.W.Fast.tw6589177444099672560 : True := trivial
theorem PySem.W.Fast.tw13845531837428179698 : True := trivial
theorem PySem.W.Fast.tw12875157590352771282 : True := trivial
theorem PySem.W.Fast.tw3051589201456578930 : True := trivial
theorem PySem.W.Fast.tw4768270065885979293 : True := trivial
theorem PySem.W.Fast.tw1399244412795942942 : True := trivial
theorem PySem.W.Fast.tw15167692180675315196 : True := trivial
theorem PySem.W.Fast.tw12360655887628158812 : True := trivial
theorem PySem.W.Fast.tw13398373391503442786 : True := trivial
theorem PySem.W.Fast.tw1110083335213143410 : True := trivial
theorem PySem.W.Fast.tw2017359449419141665 : True := trivial
theorem PySem.W.Fast.tw17686453635709345653 : True := trivial
theorem PySem.W.Fast.tw6381586984630160648 : True := trivial
theorem PySem.W.Fast.tw6134481876879702491 : True := trivial
theorem PySem.W.Fast.tw4654261201602769092 : True := trivial
theorem PySem.W.Fast.tw18079539428535871416 : True := trivial
theorem PySem.W.Fast.tw1101896079737720656 : True := trivial
theorem PySem.W.Fast.tw12433117313850552475 : True := trivial
theorem PySem.W.Fast.tw8039670352907952649 : True := trivial
theorem PySem.W.Fast.tw6084120087400673941 : True := trivial
theorem PySem.W.Fast.tw17604236033616840161 : True := trivial
theorem PySem.W.Fast.tw6468473404571590068 : True := trivial
theorem PySem.W.Fast.tw10994798691015497714 : True := trivial
theorem PySem.W.Fast.tw14076441505686965640 : True := trivial
theorem PySem.W.Fast.tw15200787966288316631 : True := trivial
theorem PySem.W.Fast.tw1534439071348969190 : True := trivial
theorem PySem.W.Fast.tw7271209693896242841 : True := trivial
theorem PySem.W.Fast.tw15381497012742203415 : True := trivial
theorem PySem.W.Fast.tw7471425923072149000 : True := trivial
theorem PySem.W.Fast.tw6137933929727035198 : True := trivial
theorem PySem.W.Fast.tw17111556467661704726 : True := trivial
theorem PySem.W.Fast.tw5371077080903631999 : True := trivial
theorem PySem.W.Fast.tw2623747907868604640 : True := trivial
theorem PySem.W.Fast.tw3765778755325455712 : True := trivial
theorem PySem.W.Fast.tw579302312202590636 : True := trivial
theorem PySem.W.Fast.tw16313180671857284484 : True := trivial
theorem PySem.W.Fast.tw12022533625062296749 : True := trivial
theorem PySem.W.Fast.tw4515931185410773710 : True := trivial
theorem PySem.W.Fast.tw2241383340666370612 : True := trivial
theorem PySem.W.Fast.tw5564171101612533179 : True := trivial
theorem PySem.W.Fast.tw5303747772151922933 : True := trivial
theorem PySem.W.Fast.tw7607603278694544561 : True := trivial
theorem PySem.W.Fast.tw1952205456754658123 : True := trivial
theorem PySem.W.Fast.tw17056191495974990012 : True := trivial
theorem PySem.W.Fast.tw17915662382821775818 : True := trivial
theorem PySem.W.Fast.tw13343728892455059406 : True := trivial
theorem PySem.W.Fast.tw12269225431236276113 : True := trivial
theorem PySem.W.Fast.tw15393021474366008517 : True := trivial
theorem PySem.W.Fast.tw145032619776048312 : True := trivial
theorem PySem.W.Fast.tw1301180965592385773 : True := trivial
theorem PySem.W.Fast.tw17772259217678810075 : True := trivial
theorem PySem.W.Fast.tw6024490376978084805 : True := trivial
theorem PySem.W.Fast.tw17727373329888777970 : True := trivial
theorem PySem.W.Fast.tw18215329175882916184 : True := trivial
theorem PySem.W.Fast.tw2900251486164776997 : True := trivial
theorem PySem.W.Fast.tw13147565416615073353 : True := trivial
theorem PySem.W.Fast.tw7090306731081477954 : True := trivial
theorem PySem.W.Fast.tw7010850112342212857 : True := trivial
theorem PySem.W.Fast.tw16806756359837316045 : True := trivial
theorem PySem.W.Fast.tw18040779412096494673 : True := trivial
theorem PySem.W.Fast.tw16489765649207552661 : True := trivial
theorem PySem.W.Fast.tw1156853723871026087 : True := trivial
theorem PySem.W.Fast.tw6496982425860871253 : True := trivial
theorem PySem.W.Fast.tw14171916473545222607 : True := trivial
theorem PySem.W.Fast.tw10843261507138752951 : True := trivial
theorem PySem.W.Fast.tw14674956647897593502 : True := trivial
theorem PySem.W.Fast.tw13113888380214580953 : True := trivial
theorem PySem.W.Fast.tw4710721521254960339 : True := trivial
theorem PySem.W.Fast.tw7668442722393331554 : True := trivial
theorem PySem.W.Fast.tw7731605502088569006 : True := trivial
theorem PySem.W.Fast.tw15589110751155006241 : True := trivial
theorem PySem.W.Fast.tw9907253556782718161 : True := trivial
theorem PySem.W.Fast.tw12888021192768712354 : True := trivial
theorem PySem.W.Fast.tw1681446416483493080 : True := trivial
theorem PySem.W.Fast.tw17978152564202612137 : True := trivial
theorem PySem.W.Fast.tw4372125798742744150 : True := trivial
theorem PySem.W.Fast.tw4344853502553371679 : True := trivial
theorem PySem.W.Fast.tw13685610917371177432 : True := trivial
theorem PySem.W.Fast.tw4498285883600675058 : True := trivial
theorem PySem.W.Fast.tw7651593460564378407 : True := trivial
theorem PySem.W.Fast.tw7319279423295151936 : True := trivial
theorem PySem.W.Fast.tw15605290479593612247 : True := trivial
theorem PySem.W.Fast.tw9222343791969423402 : True := trivial
theorem PySem.W.Fast.tw5982866708897517932 : True := trivial
theorem PySem.W.Fast.tw2483221687752022264 : True := trivial
theorem PySem.W.Fast.tw15175270079985755417 : True := trivial
theorem PySem.W.Fast.tw14953092823253714875 : True := trivial
theorem PySem.W.Fast.tw9401970198546519284 : True := trivial
theorem PySem.W.Fast.tw9079905102525176240 : True := trivial
theorem PySem.W.Fast.tw7840088500814042806 : True := trivial
theorem PySem.W.Fast.tw10998240994463458502 : True := trivial
theorem PySem.W.Fast.tw1595546854438762859 : True := trivial
theorem PySem.W.Fast.tw5738401870509799921 : True := trivial
theorem PySem.W.Fast.tw14997397826428897595 : True := trivial
theorem PySem.W.Fast.tw14631853996497814687 : True := trivial
theorem PySem.W.Fast.tw9538533678620484091 : True := trivial
theorem PySem.W.Fast.tw3727966853038375488 : True := trivial
theorem PySem.W.Fast.tw15176472222784854711 : True := trivial
theorem PySem.W.Fast.tw17686585924284620639 : True := trivial
theorem PySem.W.Fast.tw12887523325849445653 : True := trivial
theorem PySem.W.Fast.tw17091198142132407818 : True := trivial
theorem PySem.W.Fast.tw9188367090174098503 : True := trivial
theorem PySem.W.Fast.tw10786600656291723705 : True := trivial
theorem PySem.W.Fast.tw7892554775834802472 : True := trivial
theorem PySem.W.Fast.tw16251196811891970659 : True := trivial
theorem PySem.W.Fast.tw14281807289715864190 : True := trivial
theorem PySem.W.Fast.tw13873754902287254018 : True := trivial
theorem PySem.W.Fast.tw2153082916129352646 : True := trivial
theorem PySem.W.Fast.tw7557807170970782277 : True := trivial
theorem PySem.W.Fast.tw11102827813412088542 : True := trivial
theorem PySem.W.Fast.tw15407085590528040931 : True := trivial
theorem PySem.W.Fast.tw6098121454573233735 : True := trivial
theorem PySem.W.Fast.tw4655013215373731456 : True := trivial
theorem PySem.W.Fast.tw9297120637957667356 : True := trivial
theorem PySem.W.Fast.tw10687990429709146368 : True := trivial
theorem PySem.W.Fast.tw7918682657956181757 : True := trivial
theorem PySem.W.Fast.tw5173543044643755230 : True := trivial
theorem PySem.W.Fast.tw18153063860448685491 : True := trivial
theorem PySem.W.Fast.tw689663670558046821 : True := trivial
theorem PySem.W.Fast.tw3064231666353129872 : True := trivial
theorem PySem.W.Fast.tw11950612312473478953 : True := trivial
theorem PySem.W.Fast.tw11878433176405053673 : True := trivial
theorem PySem.W.Fast.tw186257911156198089 : True := trivial
theorem PySem.W.Fast.tw14462147629935188011 : True := trivial
theorem PySem.W.Fast.tw7905808654646397080 : True := trivial
theorem PySem.W.Fast.tw11905551463941901790 : True := trivial
theorem PySem.W.Fast.tw8236660422083088769 : True := trivial
theorem PySem.W.Fast.tw12280668292965956897 : True := trivial
theorem PySem.W.Fast.tw14224287196464443833 : True := trivial
theorem PySem.W.Fast.tw7000531097428202294 : True := trivial
theorem PySem.W.Fast.tw11034556513920349096 : True := trivial
theorem PySem.W.Fast.tw6201554334551465421 : True := trivial
theorem PySem.W.Fast.tw12685406434098240188 : True := trivial
theorem PySem.W.Fast.tw15981498674295935071 : True := trivial
theorem PySem.W.Fast.tw4082585164280361455 : True := trivial
theorem PySem.W.Fast.tw666563726849599664 : True := trivial
theorem PySem.W.Fast.tw7873261553291931339 : True := trivial
theorem PySem.W.Fast.tw10928653199482210450 : True := trivial
theorem PySem.W.Fast.tw4214429120164350234 : True := trivial
theorem PySem.W.Fast.tw569564195780851614 : True := trivial
theorem PySem.W.Fast.tw12442033920036752336 : True := trivial
theorem PySem.W.Fast.tw9371154835262828591 : True := trivial
theorem PySem.W.Fast.tw15149581358374696907 : True := trivial
theorem PySem.W.Fast.tw4754589136653508977 : True := trivial
theorem PySem.W.Fast.tw15568792470880726604 : True := trivial
theorem PySem.W.Fast.tw12903972350296438840 : True := trivial
theorem PySem.W.Fast.tw15882439330155322127 : True := trivial
theorem PySem.W.Fast.tw1108654635902659500 : True := trivial
theorem PySem.W.Fast.tw10042379508510279159 : True := trivial
theorem PySem.W.Fast.tw11672105807339667384 : True := trivial
theorem PySem.W.Fast.tw17833646732782164689 : True := trivial
theorem PySem.W.Fast.tw10873405023099026315 : True := trivial
theorem PySem.W.Fast.tw10889213994117148174 : True := trivial
theorem PySem.W.Fast.tw831335501691321769 : True := trivial
theorem PySem.W.Fast.tw10601947764133462968 : True := trivial
theorem PySem.W.Fast.tw13994146848047148798 : True := trivial
theorem PySem.W.Fast.tw15626157403091597895 : True := trivial
theorem PySem.W.Fast.tw9103765295351684632 : True := trivial
theorem PySem.W.Fast.tw2613816597626951339 : True := trivial
theorem PySem.W.Fast.tw9772020407629766744 : True := trivial
theorem PySem.W.Fast.tw5133093941454593746 : True := trivial
theorem PySem.W.Fast.tw13238282261896217126 : True := trivial
theorem PySem.W.Fast.tw3201515984024365892 : True := trivial
theorem PySem.W.Fast.tw14683487744600934091 : True := trivial
theorem PySem.W.Fast.tw16990888423106596273 : True := trivial
theorem PySem.W.Fast.tw8545489508881145362 : True := trivial
theorem PySem.W.Fast.tw1109404246945209447 : True := trivial
theorem PySem.W.Fast.tw7372277969933391029 : True := trivial
theorem PySem.W.Fast.tw16927009147709719091 : True := trivial
theorem PySem.W.Fast.tw16206514670632759964 : True := trivial
theorem PySem.W.Fast.tw16503624037624829538 : True := trivial
theorem PySem.W.Fast.tw5155486748750602693 : True := trivial
theorem PySem.W.Fast.tw1386865635470896938 : True := trivial
theorem PySem.W.Fast.tw5411519536056516185 : True := trivial
theorem PySem.W.Fast.tw15651420074469860739 : True := trivial
theorem PySem.W.Fast.tw8817155253038666994 : True := trivial
theorem PySem.W.Fast.tw3148280033843824701 : True := trivial
theorem PySem.W.Fast.tw8620597767942754219 : True := trivial
theorem PySem.W.Fast.tw2686518117142666250 : True := trivial
theorem PySem.W.Fast.tw11306812850331277835 : True := trivial
theorem PySem.W.Fast.tw6963399804239630772 : True := trivial
theorem PySem.W.Fast.tw438617175337423518 : True := trivial
theorem PySem.W.Fast.tw8245153929755729455 : True := trivial
theorem PySem.W.Fast.tw4286879448050322007 : True := trivial
theorem PySem.W.Fast.tw14285594833406276318 : True := trivial
theorem PySem.W.Fast.tw2846291797379569251 : True := trivial
theorem PySem.W.Fast.tw843080647919569679 : True := trivial
theorem PySem.W.Fast.tw12601303502222729079 : True := trivial
theorem PySem.W.Fast.tw13758740337903780050 : True := trivial
theorem PySem.W.Fast.tw2506876926304511983 : True := trivial
theorem PySem.W.Fast.tw11527743775846179171 : True := trivial
theorem PySem.W.Fast.tw9548104073702328562 : True := trivial
theorem PySem.W.Fast.tw6480505086047730763 : True := trivial
theorem PySem.W.Fast.tw17832793077553202687 : True := trivial
theorem PySem.W.Fast.tw7857349465955732366 : True := trivial
theorem PySem.W.Fast.tw11133539217100951911 : True := trivial
theorem PySem.W.Fast.tw536782840047487031 : True := trivial
theorem PySem.W.Fast.tw7619081706588914961 : True := trivial
theorem PySem.W.Fast.tw10591076104768855824 : True := trivial
theorem PySem.W.Fast.tw18106169831155619581 : True := trivial
theorem PySem.W.Fast.tw2039892679844033235 : True := trivial
theorem PySem.W.Fast.tw15217856162010762897 : True := trivial
theorem PySem.W.Fast.tw12656655064104829415 : True := trivial
theorem PySem.W.Fast.tw784446898771391120 : True := trivial
theorem PySem.W.Fast.tw4864224657119313134 : True := trivial
theorem PySem.W.Fast.tw14271133291074971116 : True := trivial
theorem PySem.W.Fast.tw14633812184601792152 : True := trivial
theorem PySem.W.Fast.tw14356502482146244325 : True := trivial
theorem PySem.W.Fast.tw2835124852606614856 : True := trivial
theorem PySem.W.Fast.tw14736706706505461410 : True := trivial
theorem PySem.W.Fast.tw924523322924538886 : True := trivial
theorem PySem.W.Fast.tw6015342435030570938 : True := trivial
theorem PySem.W.Fast.tw6819628891263324099 : True := trivial
theorem PySem.W.Fast.tw12408235674412015963 : True := trivial
theorem PySem.W.Fast.tw8064704279823865303 : True := trivial
theorem PySem.W.Fast.tw11052866782603794149 : True := trivial
theorem PySem.W.Fast.tw16848194467906441020 : True := trivial
theorem PySem.W.Fast.tw8482332881025000899 : True := trivial
theorem PySem.W.Fast.tw5618249376046408488 : True := trivial
theorem PySem.W.Fast.tw16709248529831332309 : True := trivial
theorem PySem.W.Fast.tw424265058189357450 : True := trivial
theorem PySem.W.Fast.tw11367565030229115988 : True := trivial
theorem PySem.W.Fast.tw12679284754298248113 : True := trivial
theorem PySem.W.Fast.tw13599424167390213329 : True := trivial
theorem PySem.W.Fast.tw2597598801555696941 : True := trivial
theorem PySem.W.Fast.tw8042667846735590105 : True := trivial
theorem PySem.W.Fast.tw12770853471720660485 : True := trivial
theorem PySem.W.Fast.tw4284752371455196610 : True := trivial
theorem PySem.W.Fast.tw13826242858356383663 : True := trivial
theorem PySem.W.Fast.tw1403114684497691167 : True := trivial
theorem PySem.W.Fast.tw8600512738341872718 : True := trivial
theorem PySem.W.Fast.tw12627682276704451318 : True := trivial
open PySem PySem.W PyProof.Rows
set_option maxRecDepth 100000 in
set_option maxHeartbeats 0 in
theorem PySem.Challenge.cw_heightfractions_k24_known_weights_told_b_holds : PySem.Challenge.rw_heightfractions_k24_known_weights_told_b.Holds := by
  w_on; o_law; k_head; (case hw => w_witness2)
  k_fill
  refine K24.walk (l := PySem.Challenge.rw_heightfractions_k24_known_weights_told_b) rfl rfl (fun w h Y => PySem.W.kIn_of Y) ?F
  case F =>
    intro w mg fa h KX G hmg
    refine' K24.all_mk KX G hmg ?a_shared_part ?l_shared_part ?e_shared_part ?k_shared_part ?a_plus ?l_plus ?e_plus ?k_plus ?a_minus ?l_minus ?e_minus ?k_minus ?a_times ?l_times ?e_times ?k_times ?a_over ?l_over ?e_over ?k_over ?a_poly_of ?l_poly_of ?e_poly_of ?k_poly_of ?a_number_at ?l_number_at ?e_number_at ?k_number_at ?a_poly_plus ?l_poly_plus ?e_poly_plus ?k_poly_plus ?a_poly_scaled ?l_poly_scaled ?e_poly_scaled ?k_poly_scaled ?a_poly_minus ?l_poly_minus ?e_poly_minus ?k_poly_minus ?a_poly_times ?l_poly_times ?e_poly_times ?k_poly_times ?a_degree_of ?l_degree_of ?e_degree_of ?k_degree_of ?a_one_further ?l_one_further ?e_one_further ?k_one_further ?a_ruled ?l_ruled ?e_ruled ?k_ruled ?a_check_moments ?l_check_moments ?e_check_moments ?k_check_moments ?a_weights_back ?l_weights_back ?e_weights_back ?k_weights_back ?a__law_cell_at ?l__law_cell_at ?e__law_cell_at ?k__law_cell_at ?a__law_stir ?l__law_stir ?e__law_stir ?k__law_stir ?a__law_drawn ?l__law_drawn ?e__law_drawn ?k__law_drawn ?a__law_whole ?l__law_whole ?e__law_whole ?k__law_whole ?a__law_divisor ?l__law_divisor ?e__law_divisor ?k__law_divisor ?a__law_low ?l__law_low ?e__law_low ?k__law_low ?a__law_add ?l__law_add ?e__law_add ?k__law_add ?a__law_mul ?l__law_mul ?e__law_mul ?k__law_mul ?a__law_is_fraction ?l__law_is_fraction ?e__law_is_fraction ?k__law_is_fraction ?a__law_told_weights ?l__law_told_weights ?e__law_told_weights ?k__law_told_weights ?a__law_ways ?l__law_ways ?e__law_ways ?k__law_ways ?a__law_sets ?l__law_sets ?e__law_sets ?k__law_sets ?a__law_counted ?l__law_counted ?e__law_counted ?k__law_counted ?a_law ?l_law ?e_law ?k_law ?a_NOUGHT ?a_NoFraction ?a_NoMoments ?a_ONE ?a_TooFar ?n_abs ?n_all ?n_bool ?n_enumerate ?n_int ?n_isinstance ?n_len ?n_list ?n_max ?n_range ?n_tuple ?a_MOST_MOMENTS ?x_nought ?x_one ?x_tf ?x_nf ?x_nm
    (case a_shared_part => k_is)
    (case l_shared_part => k_is)
    (case e_shared_part => k_is)
    (case k_shared_part => k_is)
    (case a_plus => k_is)
    (case l_plus => k_is)
    (case e_plus => k_is)
    (case k_plus => k_is)
    (case a_minus => k_is)
    (case l_minus => k_is)
    (case e_minus => k_is)
    (case k_minus => k_is)
    (case a_times => k_is)
    (case l_times => k_is)
    (case e_times => k_is)
    (case k_times => k_is)
    (case a_over => k_is)
    (case l_over => k_is)
    (case e_over => k_is)
    (case k_over => k_is)
    (case a_poly_of => k_is)
    (case l_poly_of => k_is)
    (case e_poly_of => k_is)
    (case k_poly_of => k_is)
    (case a_number_at => k_is)
    (case l_number_at => k_is)
    (case e_number_at => k_is)
    (case k_number_at => k_is)
    (case a_poly_plus => k_is)
    (case l_poly_plus => k_is)
    (case e_poly_plus => k_is)
    (case k_poly_plus => k_is)
    (case a_poly_scaled => k_is)
    (case l_poly_scaled => k_is)
    (case e_poly_scaled => k_is)
    (case k_poly_scaled => k_is)
    (case a_poly_minus => k_is)
    (case l_poly_minus => k_is)
    (case e_poly_minus => k_is)
    (case k_poly_minus => k_is)
    (case a_poly_times => k_is)
    (case l_poly_times => k_is)
    (case e_poly_times => k_is)
    (case k_poly_times => k_is)
    (case a_degree_of => k_is)
    (case l_degree_of => k_is)
    (case e_degree_of => k_is)
    (case k_degree_of => k_is)
    (case a_one_further => k_is)
    (case l_one_further => k_is)
    (case e_one_further => k_is)
    (case k_one_further => k_is)
    (case a_ruled => k_is)
    (case l_ruled => k_is)
    (case e_ruled => k_is)
    (case k_ruled => k_is)
    (case a_check_moments => k_is)
    (case l_check_moments => k_is)
    (case e_check_moments => k_is)
    (case k_check_moments => k_is)
    (case a_weights_back => k_is)
    (case l_weights_back => k_is)
    (case e_weights_back => k_is)
    (case k_weights_back => k_is)
    (case a__law_cell_at => k_is)
    (case l__law_cell_at => k_is)
    (case e__law_cell_at => k_is)
    (case k__law_cell_at => k_is)
    (case a__law_stir => k_is)
    (case l__law_stir => k_is)
    (case e__law_stir => k_is)
    (case k__law_stir => k_is)
    (case a__law_drawn => k_is)
    (case l__law_drawn => k_is)
    (case e__law_drawn => k_is)
    (case k__law_drawn => k_is)
    (case a__law_whole => k_is)
    (case l__law_whole => k_is)
    (case e__law_whole => k_is)
    (case k__law_whole => k_is)
    (case a__law_divisor => k_is)
    (case l__law_divisor => k_is)
    (case e__law_divisor => k_is)
    (case k__law_divisor => k_is)
    (case a__law_low => k_is)
    (case l__law_low => k_is)
    (case e__law_low => k_is)
    (case k__law_low => k_is)
    (case a__law_add => k_is)
    (case l__law_add => k_is)
    (case e__law_add => k_is)
    (case k__law_add => k_is)
    (case a__law_mul => k_is)
    (case l__law_mul => k_is)
    (case e__law_mul => k_is)
    (case k__law_mul => k_is)
    (case a__law_is_fraction => k_is)
    (case l__law_is_fraction => k_is)
    (case e__law_is_fraction => k_is)
    (case k__law_is_fraction => k_is)
    (case a__law_told_weights => k_is)
    (case l__law_told_weights => k_is)
    (case e__law_told_weights => k_is)
    (case k__law_told_weights => k_is)
    (case a__law_ways => k_is)
    (case l__law_ways => k_is)
    (case e__law_ways => k_is)
    (case k__law_ways => k_is)
    (case a__law_sets => k_is)
    (case l__law_sets => k_is)
    (case e__law_sets => k_is)
    (case k__law_sets => k_is)
    (case a__law_counted => k_is)
    (case l__law_counted => k_is)
    (case e__law_counted => k_is)
    (case k__law_counted => k_is)
    (case a_law => k_is)
    (case l_law => k_is)
    (case e_law => k_is)
    (case k_law => k_is)
    (case a_NOUGHT => k_is)
    (case a_NoFraction => k_is)
    (case a_NoMoments => k_is)
    (case a_ONE => k_is)
    (case a_TooFar => k_is)
    (case n_abs => k_is)
    (case n_all => k_is)
    (case n_bool => k_is)
    (case n_enumerate => k_is)
    (case n_int => k_is)
    (case n_isinstance => k_is)
    (case n_len => k_is)
    (case n_list => k_is)
    (case n_max => k_is)
    (case n_range => k_is)
    (case n_tuple => k_is)
    (case a_MOST_MOMENTS => k_is)
    (case x_nought => kernel_rfl)
    (case x_one => kernel_rfl)
    (case x_tf => kernel_rfl)
    (case x_nf => kernel_rfl)
    (case x_nm => kernel_rfl)
