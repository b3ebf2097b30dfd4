import PyProof.Rows.All
import Wide.All
import OpenK.AllK
import Wide.FinOn
import HandS.Base
import HandS.Call
import HandS.List
import HandS.Comp
import HandS.Ends
import HandS.Dict
import HandS.Iter
import HandS.Text
import HandS.Words
import HandS.WordsList
import PyProof.ReprRoads
import KE.LtData
import PyProof.NeKinds
import HandS.IsInst
import HandS.Zip
import HandS.TupAny
import HandS.Wide
import PyProof.FactsAll.dict
import KE.GoesMore
import HandS.More
import HandS.Style
import KE.SortData
import PyProof.StrLawsRepr
import PyProof.CallFns
import KE.DataEq
import HandS.TupMul
import HandS.TryOnly
import PySem.Challenge.RW_fitruns_k12_settings_known_by_hand
set_option Elab.async false
set_option linter.all false
set_option maxRecDepth 100000
set_option maxHeartbeats 2000000
set_option autoImplicit false
namespace Fr
open PySem PySem.Spec PyProof.Rows L2

/-! weakest ends, straight over the syntax -/
def WE (X : Cx) (z : L2.St) (H : Hp) (e : Expr) (Q : VK) : Prop :=
  ∀ (pins : List (Addr × Obj)) (s : Shared), Inv X pins z H s → wpAny (model X.prog X.w) X.A (eval e X.env) (EP X pins z Q) X.xe s
def WT (X : Cx) (z : L2.St) (H : Hp) (e : Expr) (Q : Bool → Hp → Prop) : Prop :=
  ∀ (pins : List (Addr × Obj)) (s : Shared), Inv X pins z H s → wpAny (model X.prog X.w) X.A (isTrue e X.env (eval e X.env)) (TP X pins z Q) X.xe s
def WW (X : Cx) (z : L2.St) (H : Hp) (e : Expr) (Q : Bool → Hp → Prop) : Prop :=
  ∀ (whole : Sem Value) (pins : List (Addr × Obj)) (s : Shared), Inv X pins z H s → wpAny (model X.prog X.w) X.A (isTrue e X.env whole) (TP X pins z Q) X.xe s
def WA (X : Cx) (z : L2.St) (H : Hp) (es : List Expr) (Q : List V → Hp → Prop) : Prop :=
  ∀ (pos : Pos) (pins : List (Addr × Obj)) (s : Shared), Inv X pins z H s → wpAny (model X.prog X.w) X.A (spliced (backTo pos (starEach es X.env))) (AP X pins z Q) X.xe s
def WS (X : Cx) (D : Ends) (z : L2.St) (H : Hp) (st : Stmt) : Prop :=
  ∀ (pins : List (Addr × Obj)) (s : Shared), Inv X pins z H s → wpAny (model X.prog X.w) X.A (exec st X.env) (SP X pins D) X.xe s
def WB (X : Cx) (D : Ends) (z : L2.St) (H : Hp) (st : List Stmt) : Prop :=
  ∀ (pins : List (Addr × Obj)) (s : Shared), Inv X pins z H s → wpAny (model X.prog X.w) X.A (execs st X.env) (SP X pins D) X.xe s

section
variable {X : Cx} {z : L2.St} {H : Hp} {D : Ends} {e a b c : Expr} {es : List Expr} {st : Stmt} {sts : List Stmt} {pos : Pos}
theorem eE : PE X e fun z H Q => WE X z H e Q := ⟨fun pins s z H Q I h => h pins s I⟩
theorem eT : PT X e fun z H Q => WT X z H e Q := ⟨fun pins s z H Q I h => h pins s I⟩
theorem eW : PW X e fun z H Q => WW X z H e Q := ⟨fun w pins s z H Q I h => h w pins s I⟩
theorem eA : PA X es fun z H Q => WA X z H es Q := ⟨fun pos pins s z H Q I h => h pos pins s I⟩
theorem eS : PS X st fun D z H => WS X D z H st := ⟨fun pins s z H D I h => h pins s I⟩
theorem eB : PSs X sts fun D z H => WB X D z H sts := ⟨fun pins s z H D I h => h pins s I⟩
theorem WE.on {t : TE} {Q : VK} (h : PE X e t) (q : t z H Q) : WE X z H e Q := fun pins s I => h.run pins s z H Q I q
theorem WT.on {t : TT} {Q : Bool → Hp → Prop} (h : PT X e t) (q : t z H Q) : WT X z H e Q := fun pins s I => h.run pins s z H Q I q
theorem WW.on {t : TT} {Q : Bool → Hp → Prop} (h : PW X e t) (q : t z H Q) : WW X z H e Q := fun w pins s I => h.run w pins s z H Q I q
theorem WA.on {t : TA} {Q : List V → Hp → Prop} (h : PA X es t) (q : t z H Q) : WA X z H es Q := fun pos pins s I => h.run pos pins s z H Q I q
theorem WS.on {t : TS} (h : PS X st t) (q : t D z H) : WS X D z H st := fun pins s I => h.run pins s z H D I q
theorem WB.on {t : TS} (h : PSs X sts t) (q : t D z H) : WB X D z H sts := fun pins s I => h.run pins s z H D I q
theorem WE.imp {Q R : VK} (h : WE X z H e Q) (i : ∀ v K, Q v K → R v K) : WE X z H e R := fun pins s I =>
  thn (h pins s I) fun u s1 ⟨v, K, I1, r, q⟩ => ⟨v, K, I1, r, i v K q⟩
theorem WT.imp {Q R : Bool → Hp → Prop} (h : WT X z H e Q) (i : ∀ v K, Q v K → R v K) : WT X z H e R := fun pins s I =>
  thn (h pins s I) fun u s1 ⟨K, I1, q⟩ => ⟨K, I1, i u K q⟩
theorem WA.imp {Q R : List V → Hp → Prop} (h : WA X z H es Q) (i : ∀ v K, Q v K → R v K) : WA X z H es R := fun pos pins s I =>
  thn (h pos pins s I) fun u s1 ⟨v, K, I1, r, q⟩ => ⟨v, K, I1, r, i v K q⟩

/-! arguments -/
theorem wa_nil {Q : List V → Hp → Prop} (h : Q [] H) : WA X z H [] Q := .on pa_nil h
theorem wa_cons {Q : List V → Hp → Prop} (h : WE X z H e fun x H1 => WA X z H1 es fun xs H2 => Q (x :: xs) H2)
    (hs : starEach (e :: es) X.env = (false, eval e X.env) :: starEach es X.env := by rfl) : WA X z H (e :: es) Q := .on (pa_cons eE eA hs) h
end
end Fr

set_option Elab.async false
set_option linter.all false
set_option maxRecDepth 100000
set_option maxHeartbeats 2000000
set_option autoImplicit false
namespace Fr
open PySem PySem.Spec PyProof.Rows L2

/-! all that stood stands -/
def Kp (H K : Hp) : Prop := ∀ a o, H a = some o → K a = some o
theorem Kp.rfl {H : Hp} : Kp H H := fun _ _ h => h
theorem Kp.tr {H K L : Hp} (p : Kp H K) (q : Kp K L) : Kp H L := fun a o h => q a o (p a o h)
theorem Kp.new {H : Hp} {a : Addr} {o : HO} (h : H a = none) : Kp H (upd H a o) := fun b u e => by
  rw [upd_ne (ne_of_none e h)]
  exact e
theorem Kp.over {H K : Hp} {a : Addr} {o : HO} (p : Kp H K) (h : H a = none) : Kp H (upd K a o) := fun b u e => by
  rw [upd_ne (ne_of_none e h)]
  exact p b u e
theorem Kp.none {H K : Hp} {a : Addr} (p : Kp H K) (h : K a = none) : H a = none := by
  cases e : H a with
  | none => rfl
  | some o => rw [p a o e] at h; cases h

/-! data as it stands in the heap -/
def keyD : Key → PyData
  | .inl i => .int i
  | .inr x => .str x
mutual
inductive Dat (H : Hp) : V → PyData → Prop
  | non : Dat H .non .none
  | bl (b : Bool) : Dat H (.bl b) (.bool b)
  | int (i : Int) : Dat H (.int i) (.int i)
  | str (x : Str) : Dat H (.str x) (.str x)
  | lst {a : Addr} {xs : List V} {ds : List PyData} : H a = some (.lst xs) → DatL H xs ds → Dat H (.ref a) (.list ds)
  | tup {a : Addr} {xs : List V} {ds : List PyData} : H a = some (.tup xs) → DatL H xs ds → Dat H (.ref a) (.tuple ds)
  | dct {a : Addr} {kvs : List (Key × V)} {ks ds : List PyData} : H a = some (.dK kvs) → kvs.map (fun p => keyD p.1) = ks → DatL H (kvs.map (·.2)) ds → Dat H (.ref a) (.dict (ks.zip ds))
inductive DatL (H : Hp) : List V → List PyData → Prop
  | nil : DatL H [] []
  | cons {v : V} {vs : List V} {d : PyData} {ds : List PyData} : Dat H v d → DatL H vs ds → DatL H (v :: vs) (d :: ds)
end
mutual
theorem Dat.kp {H K : Hp} (p : Kp H K) : ∀ {v : V} {d : PyData}, Dat H v d → Dat K v d
  | _, _, .non => .non
  | _, _, .bl b => .bl b
  | _, _, .int i => .int i
  | _, _, .str x => .str x
  | _, _, .lst h l => .lst (p _ _ h) (DatL.kp p l)
  | _, _, .tup h l => .tup (p _ _ h) (DatL.kp p l)
  | _, _, .dct h k l => .dct (p _ _ h) k (DatL.kp p l)
theorem DatL.kp {H K : Hp} (p : Kp H K) : ∀ {vs : List V} {ds : List PyData}, DatL H vs ds → DatL K vs ds
  | _, _, .nil => .nil
  | _, _, .cons a b => .cons (Dat.kp p a) (DatL.kp p b)
end
theorem DatL.len {H : Hp} : ∀ {vs : List V} {ds : List PyData}, DatL H vs ds → vs.length = ds.length
  | _, _, .nil => rfl
  | _, _, .cons _ b => by rw [List.length_cons, List.length_cons, DatL.len b]
theorem DatL.get {H : Hp} : ∀ {vs : List V} {ds : List PyData} {i : Nat} {d : PyData}, DatL H vs ds → ds[i]? = some d → ∃ v, vs[i]? = some v ∧ Dat H v d
  | _, _, _, _, .nil, e => by simp at e
  | _, _, 0, _, .cons a _, e => by simp at e; subst e; exact ⟨_, rfl, a⟩
  | _, _, i + 1, d, .cons _ b, e => by
    obtain ⟨v, h1, h2⟩ := DatL.get (i := i) (d := d) b (by simpa using e)
    exact ⟨v, by simpa using h1, h2⟩
theorem DatL.getV {H : Hp} : ∀ {vs : List V} {ds : List PyData} {i : Nat} {v : V}, DatL H vs ds → vs[i]? = some v → ∃ d, ds[i]? = some d ∧ Dat H v d
  | _, _, _, _, .nil, e => by simp at e
  | _, _, 0, _, .cons a _, e => by simp at e; subst e; exact ⟨_, rfl, a⟩
  | _, _, i + 1, v, .cons _ b, e => by
    obtain ⟨d, h1, h2⟩ := DatL.getV (i := i) (v := v) b (by simpa using e)
    exact ⟨d, by simpa using h1, h2⟩
theorem DatL.app {H : Hp} : ∀ {vs ws : List V} {ds es : List PyData}, DatL H vs ds → DatL H ws es → DatL H (vs ++ ws) (ds ++ es)
  | _, _, _, _, .nil, h => h
  | _, _, _, _, .cons a b, h => .cons a (DatL.app b h)
theorem DatL.take {H : Hp} : ∀ {vs : List V} {ds : List PyData} (n : Nat), DatL H vs ds → DatL H (vs.take n) (ds.take n)
  | _, _, 0, _ => .nil
  | _, _, _ + 1, .nil => .nil
  | _, _, n + 1, .cons a b => .cons a (DatL.take n b)
theorem DatL.drop {H : Hp} : ∀ {vs : List V} {ds : List PyData} (n : Nat), DatL H vs ds → DatL H (vs.drop n) (ds.drop n)
  | _, _, 0, h => h
  | _, _, _ + 1, .nil => .nil
  | _, _, n + 1, .cons _ b => DatL.drop n b
theorem DatL.rev {H : Hp} : ∀ {vs : List V} {ds : List PyData}, DatL H vs ds → DatL H vs.reverse ds.reverse
  | _, _, .nil => .nil
  | _, _, .cons a b => by
    rw [List.reverse_cons, List.reverse_cons]
    exact DatL.app (DatL.rev b) (.cons a .nil)

section
variable {X : Cx} {pins : List (Addr × Obj)} {z : L2.St} {H : Hp} {s : Shared}
theorem reads_keys (P : Program) (w : World) (h : Heap) : ∀ (es : List DictEntry) (kvs : List (Key × Value)), Pairs (mixKind P w) es kvs → ∃ as, ReadsAll h (es.map (·.key)) (kvs.map fun p => keyD p.1) as
  | _, _, .nil => ⟨_, .nil⟩
  | _, _, .cons (e := e) (kv := kv) hk _ ht => by
    obtain ⟨as, hr⟩ := reads_keys P w h _ _ ht
    rcases keyIs_shape (show keyIs kv.1 e.key = true from hk) with ⟨i, t, e1, e2⟩ | ⟨x, t, e1, e2⟩
    · rw [List.map_cons, List.map_cons, e1, e2]
      exact ⟨_, .cons (.int i t) hr⟩
    · rw [List.map_cons, List.map_cons, e1, e2]
      exact ⟨_, .cons (.str x t) hr⟩
theorem pairs_vals {P : Program} {w : World} : ∀ {es : List DictEntry} {kvs : List (Key × Value)}, Pairs (mixKind P w) es kvs → es.map (·.val) = kvs.map (·.2)
  | _, _, .nil => rfl
  | _, _, .cons _ hv ht => by rw [List.map_cons, List.map_cons, hv, pairs_vals ht]
theorem kv_keys : ∀ {kvs : List (Key × V)} {vs : List (Key × Value)}, KV kvs vs → vs.map (fun p => keyD p.1) = kvs.map (fun p => keyD p.1)
  | _, _, .nil => rfl
  | _, _, .cons h t => by rw [List.map_cons, List.map_cons, h.1, kv_keys t]
theorem kv_vals : ∀ {kvs : List (Key × V)} {vs : List (Key × Value)}, KV kvs vs → Vals (kvs.map (·.2)) (vs.map (·.2))
  | _, _, .nil => .nil
  | _, _, .cons h t => by rw [List.map_cons, List.map_cons]; exact .cons h.2 (kv_vals t)
mutual
theorem Dat.reads (I : Inv X pins z H s) : ∀ {v : V} {d : PyData} {u : Value}, Dat H v d → RelV v u → ∃ as, Reads s.heap u d as
  | _, _, _, .non, r => by cases r; exact ⟨_, .none⟩
  | _, _, _, .bl b, r => by cases r; exact ⟨_, .bool b⟩
  | _, _, _, .int i, r => by obtain ⟨t, rfl⟩ := r; exact ⟨_, .int i t⟩
  | _, _, _, .str x, r => by obtain ⟨t, rfl⟩ := r; exact ⟨_, .str x t⟩
  | _, _, _, .lst (a := a) h l, r => by
    cases r
    obtain ⟨_, its, n, rv, ho⟩ := I.hok a _ h
    obtain ⟨as, hr⟩ := DatL.reads I l rv
    exact ⟨_, .list ho rfl rfl hr⟩
  | _, _, _, .tup (a := a) h l, r => by
    cases r
    obtain ⟨_, its, rv, o, ho, hc, n, hd⟩ := I.hok a _ h
    obtain ⟨as, hr⟩ := DatL.reads I l rv
    exact ⟨_, .tuple ho hc hd hr⟩
  | _, _, _, .dct (a := a) (kvs := kvs) (ks := ks) (ds := ds) h k l, r => by
    cases r
    obtain ⟨_, _, vs, kv, o, es, ep, ho, hx, hd, _, hp, _⟩ := I.hok a _ h
    obtain ⟨as, ha⟩ := reads_keys X.prog X.w s.heap _ _ hp
    obtain ⟨bs, hb⟩ := DatL.reads I l (kv_vals kv)
    have hl : ks.length = ds.length := by
      have := l.len
      rw [← k, List.length_map, ← this, List.length_map]
    refine ⟨_, .dict ho hx.1 hd (as := as) (bs := bs) ?_ ?_⟩
    · rw [List.map_fst_zip (Nat.le_of_eq hl), ← k, ← kv_keys kv]
      exact ha
    · rw [List.map_snd_zip (Nat.le_of_eq hl.symm), pairs_vals hp]
      exact hb
theorem DatL.reads (I : Inv X pins z H s) : ∀ {vs : List V} {ds : List PyData} {us : List Value}, DatL H vs ds → Vals vs us → ∃ as, ReadsAll s.heap us ds as
  | _, _, _, .nil, r => by cases r; exact ⟨_, .nil⟩
  | _, _, _, .cons a b, r => by
    cases r with
    | cons r1 r2 =>
      obtain ⟨as, q1⟩ := Dat.reads I a r1
      obtain ⟨bs, q2⟩ := DatL.reads I b r2
      exact ⟨_, .cons q1 q2⟩
end
end
end Fr

set_option Elab.async false
set_option linter.all false
set_option maxRecDepth 100000
set_option maxHeartbeats 2000000
set_option autoImplicit false
namespace Fr
open PySem PySem.Spec PyProof.Rows L2

/-- N: the base H and what was laid behind H1, all of it in H2; nothing else -/
structure Nw (H H1 N H2 : Hp) : Prop where
  lo : Kp H N
  hi : Kp N H2
  off : ∀ a, H a = none → H1 a ≠ none → N a = none
theorem Nw.rfl {H H1 : Hp} (p : Kp H H1) : Nw H H1 H H1 := ⟨.rfl, p, fun _ h _ => h⟩
theorem Nw.tr {H H1 N H2 M H3 : Hp} (n : Nw H H1 N H2) (p : Kp H1 H2) (m : Nw N H2 M H3) : Nw H H1 M H3 :=
  ⟨n.lo.tr m.lo, m.hi, fun a h h1 => m.off a (n.off a h h1) fun e => by
    cases q : H1 a with
    | none => exact h1 q
    | some o => rw [p a o q] at e; cases e⟩
theorem Nw.more {H H1 N H2 H3 : Hp} (n : Nw H H1 N H2) (p : Kp H2 H3) : Nw H H1 N H3 := ⟨n.lo, n.hi.tr p, n.off⟩
theorem Nw.laid {H H1 : Hp} {a : Addr} {o : HO} (p : Kp H H1) (h : H1 a = none) : Nw H H1 (upd H a o) (upd H1 a o) := by
  have h0 : H a = none := p.none h
  refine ⟨.new h0, fun b u e => ?_, fun b e e1 => ?_⟩
  · by_cases q : b = a
    · subst q
      rw [upd_same] at e ⊢
      exact e
    · rw [upd_ne q] at e ⊢
      exact p b u e
  · have q : b ≠ a := fun q => e1 (q ▸ h)
    rw [upd_ne q]
    exact e

/-! what evaluates to which datum, whatever is laid meanwhile -/
def DE (X : Cx) (z : L2.St) (H : Hp) (e : Expr) (d : PyData) : Prop := ∀ H1, Kp H H1 → ∀ Q : VK, (∀ v H2 N, Kp H1 H2 → Nw H H1 N H2 → Dat N v d → Q v H2) → WE X z H1 e Q
def DT (X : Cx) (z : L2.St) (H : Hp) (e : Expr) (b : Bool) : Prop := ∀ H1, Kp H H1 → ∀ Q : Bool → Hp → Prop, (∀ H2, Kp H1 H2 → Q b H2) → WT X z H1 e Q
def DW (X : Cx) (z : L2.St) (H : Hp) (e : Expr) (b : Bool) : Prop := ∀ H1, Kp H H1 → ∀ Q : Bool → Hp → Prop, (∀ H2, Kp H1 H2 → Q b H2) → WW X z H1 e Q
def DA (X : Cx) (z : L2.St) (H : Hp) (es : List Expr) (ds : List PyData) : Prop := ∀ H1, Kp H H1 → ∀ Q : List V → Hp → Prop, (∀ vs H2 N, Kp H1 H2 → Nw H H1 N H2 → DatL N vs ds → Q vs H2) → WA X z H1 es Q
/-- a block that ends by handing back the datum -/
def DB (X : Cx) (z : L2.St) (H : Hp) (sts : List Stmt) (d : PyData) : Prop := ∀ H1, Kp H H1 → ∀ D : Ends, (∀ v H2 N, Kp H1 H2 → Nw H H1 N H2 → Dat N v d → D.rt v H2) → WB X D z H1 sts

section
variable {X : Cx} {z : L2.St} {H H' : Hp} {e a b c : Expr} {es : List Expr} {st : Stmt} {sts : List Stmt} {pos : Pos} {d da db dc : PyData} {ds : List PyData} {v : V} {i : Nat} {x : Str}
theorem DT.kp {b : Bool} (p : Kp H H') (h : DT X z H e b) : DT X z H' e b := fun H1 q Q k => h H1 (p.tr q) Q k
theorem DE.to {d' : PyData} (h : DE X z H e d) (q : d = d') : DE X z H e d' := q ▸ h
theorem DT.to {b b' : Bool} (h : DT X z H e b) (q : b = b') : DT X z H e b' := q ▸ h
theorem DW.to {b b' : Bool} (h : DW X z H e b) (q : b = b') : DW X z H e b' := q ▸ h
theorem DB.to {d' : PyData} (h : DB X z H sts d) (q : d = d') : DB X z H sts d' := q ▸ h
theorem Nw.up {H H' H1 N H2 : Hp} (n : Nw H H1 N H2) (p : Kp H H') (p1 : Kp H' H1) (q : Kp H1 H2) : ∃ M, Kp N M ∧ Nw H' H1 M H2 := by
  refine ⟨fun a => match H' a with | some o => some o | none => N a, fun a o e => ?_, fun a o e => ?_, fun a o e => ?_, fun a e e1 => ?_⟩
  · show (match H' a with | some o => some o | none => N a) = some o
    cases h : H' a with
    | none => exact e
    | some o' =>
      have h1 := q _ _ (p1 _ _ h)
      rw [n.hi _ _ e] at h1
      exact h1.symm
  · show (match H' a with | some o => some o | none => N a) = some o
    rw [e]
  · have e' : (match H' a with | some o => some o | none => N a) = some o := e
    cases h : H' a with
    | none => rw [h] at e'; exact n.hi _ _ e'
    | some o' => rw [h] at e'; cases e'; exact q _ _ (p1 _ _ h)
  · show (match H' a with | some o => some o | none => N a) = none
    rw [e]
    exact n.off a (p.none e) e1
theorem DE.kp (p : Kp H H') (h : DE X z H e d) : DE X z H' e d := fun H1 q Q k => h H1 (p.tr q) Q fun v H2 N p2 n hv => by
  obtain ⟨M, m1, m2⟩ := n.up p q p2
  exact k v H2 M p2 m2 (hv.kp m1)
theorem DA.kp (p : Kp H H') (h : DA X z H es ds) : DA X z H' es ds := fun H1 q Q k => h H1 (p.tr q) Q fun v H2 N p2 n hv => by
  obtain ⟨M, m1, m2⟩ := n.up p q p2
  exact k v H2 M p2 m2 (hv.kp m1)
theorem DB.kp (p : Kp H H') (h : DB X z H sts d) : DB X z H' sts d := fun H1 q D k => h H1 (p.tr q) D fun v H2 N p2 n hv => by
  obtain ⟨M, m1, m2⟩ := n.up p q p2
  exact k v H2 M p2 m2 (hv.kp m1)

/-! names, constants -/
theorem de_name (i : Nat) (hz : z[i]? = some (some v)) (hd : Dat H v d) (hN : X.N[i]? = some x := by rfl) (hv : Vis X.env.scope x := by first | exact Or.inl rfl | exact Or.inr (Or.inl rfl) | exact Or.inr (Or.inr rfl)) (h1 : (x == ("__debug__" : Str)) = false := by decide)
    (h2 : (x == ("__classdict__" : Str)) = false := by decide) : DE X z H (.Name x pos) d := fun H1 p Q k => .on (pe_var hN hv h1 h2) ⟨v, hz, k v H1 H .rfl (.rfl p) hd⟩
theorem de_int {n : Int} {j} : DE X z H (.Constant (.int n) j pos) (.int n) := fun H1 p Q k => .on pe_int (k _ H1 H .rfl (.rfl p) (.int n))
theorem de_str {w : Str} {j} : DE X z H (.Constant (.str w) j pos) (.str w) := fun H1 p Q k => .on pe_str (k _ H1 H .rfl (.rfl p) (.str w))
theorem de_bl {w : Bool} {j} : DE X z H (.Constant (.bool w) j pos) (.bool w) := fun H1 p Q k => .on pe_bl (k _ H1 H .rfl (.rfl p) (.bl w))
theorem de_none {j} : DE X z H (.Constant .none j pos) .none := fun H1 p Q k => .on pe_non (k _ H1 H .rfl (.rfl p) .non)
theorem da_nil : DA X z H [] [] := fun H1 p Q k => wa_nil (k _ H1 H .rfl (.rfl p) .nil)
theorem da_cons (h : DE X z H e d) (r : DA X z H es ds) (hs : starEach (e :: es) X.env = (false, eval e X.env) :: starEach es X.env := by rfl) : DA X z H (e :: es) (d :: ds) := fun H1 p Q k =>
  wa_cons (h H1 p _ fun x H2 N p2 n hx => (r.kp n.lo) H2 n.hi _ fun xs H3 M p3 m hxs => k _ H3 M (p2.tr p3) (n.tr p2 m) (.cons (hx.kp m.lo) hxs)) hs
theorem big_of {n : Nat} (h : n ≤ 1000000) : n ≤ sizeLine := Nat.le_trans h (by decide)
theorem de_tup {k} (h : DA X z H es ds) (hl : ds.length ≤ 1000000) : DE X z H (.Tuple es k pos) (.tuple ds) := fun H1 p Q q =>
  .on (pe_tup eA) (h H1 p _ fun vs H2 N p2 n hv => ⟨big_of (hv.len ▸ hl), fun l hl => q _ _ (upd N l (.tup vs)) (p2.tr (.new hl)) (n.tr p2 (.laid n.hi hl)) (.tup upd_same (hv.kp (.new (n.hi.none hl))))⟩)
theorem de_lst (h : DA X z H es ds) (hl : ds.length ≤ 1000000) : DE X z H (.List es pos) (.list ds) := fun H1 p Q q =>
  .on (pe_lst eA) (h H1 p _ fun vs H2 N p2 n hv => ⟨big_of (hv.len ▸ hl), fun l hl => q _ _ (upd N l (.lst vs)) (p2.tr (.new hl)) (n.tr p2 (.laid n.hi hl)) (.lst upd_same (hv.kp (.new (n.hi.none hl))))⟩)
theorem de_dict0 : DE X z H (.Dict [] [] pos) (.dict []) := fun H1 p Q q =>
  .on pe_dnewK fun l hl => q _ _ (upd H l (.dK [])) (.new hl) (.laid p hl) (.dct (ks := []) (ds := []) upd_same rfl .nil)

/-! operators by data -/
def RD (r : R2) (da db d : PyData) : Prop := ∀ (x y : V) (K N : Hp) (Q : VK), Kp N K → Dat N x da → Dat N y db → (∀ v K' N', Kp K K' → Nw N K N' K' → Dat N' v d → Q v K') → r x y K Q
theorem de_bin {op : Operator} {r : R2} (ho : OpR X (binaryOp op) r) (hr : RD r da db d) (ha : DE X z H a da) (hb : DE X z H b db) : DE X z H (.BinOp a op b pos) d := fun H1 p Q q =>
  .on (pe_op ho eE eE) (ha H1 p _ fun x H2 N p2 n hx => (hb.kp n.lo) H2 n.hi _ fun y H3 M p3 m hy => hr x y H3 M Q m.hi (hx.kp m.lo) hy fun v K N' k n' hv => q v K N' ((p2.tr p3).tr k) ((n.tr p2 m).tr (p2.tr p3) n') hv)
theorem de_cmp {op : CmpOp} {r : R2} (ho : OpR X (compareOp op) r) (hr : RD r da db d) (ha : DE X z H a da) (hb : DE X z H b db) (hm : behindInMarks op b = false := by first | rfl | exact nobehind _ (by decide) (by decide)) : DE X z H (.Compare a [op] [b] pos) d := fun H1 p Q q =>
  .on (pe_cmpR ho eE eE hm) (ha H1 p _ fun x H2 N p2 n hx => (hb.kp n.lo) H2 n.hi _ fun y H3 M p3 m hy => hr x y H3 M Q m.hi (hx.kp m.lo) hy fun v K N' k n' hv => q v K N' ((p2.tr p3).tr k) ((n.tr p2 m).tr (p2.tr p3) n') hv)
theorem Dat.bool_inv {b : Bool} (h : Dat H v (.bool b)) : v = .bl b := by cases h; rfl
theorem Dat.int_inv {n : Int} (h : Dat H v (.int n)) : v = .int n := by cases h; rfl
theorem Dat.str_inv {n : Str} (h : Dat H v (.str n)) : v = .str n := by cases h; rfl
theorem Dat.none_inv (h : Dat H v .none) : v = .non := by cases h; rfl
theorem Dat.tup_inv (h : Dat H v (.tuple ds)) : ∃ l xs, v = .ref l ∧ H l = some (.tup xs) ∧ DatL H xs ds := by
  cases h with
  | tup h l => exact ⟨_, _, rfl, h, l⟩
theorem Dat.lst_inv (h : Dat H v (.list ds)) : ∃ l xs, v = .ref l ∧ H l = some (.lst xs) ∧ DatL H xs ds := by
  cases h with
  | lst h l => exact ⟨_, _, rfl, h, l⟩
theorem dt_cmp {op : CmpOp} {r : R2} {k : Bool} (ho : OpR X (compareOp op) r) (hr : RD r da db (.bool k)) (ha : DE X z H a da) (hb : DE X z H b db) (hm : behindInMarks op b = false := by first | rfl | exact nobehind _ (by decide) (by decide)) : DT X z H (.Compare a [op] [b] pos) k := fun H1 p Q q =>
  .on (pt_cmpR ho eE eE hm) (ha H1 p _ fun x H2 N p2 n hx => (hb.kp n.lo) H2 n.hi _ fun y H3 M p3 m hy => hr x y H3 M _ m.hi (hx.kp m.lo) hy fun v K N' kp _ hv => ⟨k, hv.bool_inv, q K ((p2.tr p3).tr kp)⟩)
theorem de_chain {op op' : CmpOp} {r r' : R2} {k k' : Bool} (ho : OpR X (compareOp op) r) (ho' : OpR X (compareOp op') r') (ha : DE X z H a da) (hb : DE X z H b db) (hr : RD r da db (.bool k)) (hc : k = true → DE X z H c dc ∧ RD r' db dc (.bool k'))
    (hm : lastMarks [op, op'] [b, c] = false := by with_unfolding_all rfl) : DE X z H (.Compare a [op, op'] [b, c] pos) (.bool (k && k')) := fun H1 p Q q =>
  .on (pe_chain ho ho' eE eE eE hm) (ha H1 p _ fun x H2 N p2 n hx => (hb.kp n.lo) H2 n.hi _ fun y H3 M p3 m hy => hr x y H3 M _ m.hi (hx.kp m.lo) hy fun v K N' kp n' hv => by
    refine ⟨k, hv.bool_inv, ?_⟩
    cases k with
    | false =>
      rw [if_neg Bool.false_ne_true]
      exact q _ _ N' ((p2.tr p3).tr kp) ((n.tr p2 m).tr (p2.tr p3) n') (.bl _)
    | true =>
      rw [if_pos rfl]
      obtain ⟨hc, hr'⟩ := hc rfl
      have l3 : Kp H N' := (n.lo.tr m.lo).tr n'.lo
      exact (hc.kp l3) K n'.hi _ fun w H5 N5 p5 n5 hw => hr' y w H5 N5 Q n5.hi (hy.kp (n'.lo.tr n5.lo)) hw fun v' K' N6 kp' n6 hv' =>
        q _ _ N6 ((((p2.tr p3).tr kp).tr p5).tr kp') ((((n.tr p2 m).tr (p2.tr p3) n').tr ((p2.tr p3).tr kp) n5).tr (((p2.tr p3).tr kp).tr p5) n6) hv')

/-! and, or, not, a if c else b -/
theorem de_one {op} (h : DE X z H a d) : DE X z H (.BoolOp op [a] pos) d := fun H1 p Q q => .on (pe_one eE) (h H1 p Q q)
theorem de_and {rest : List Expr} {k k' : Bool} (ha : DE X z H a (.bool k)) (hb : k = true → DE X z H (.BoolOp .And (b :: rest) pos) (.bool k')) : DE X z H (.BoolOp .And (a :: b :: rest) pos) (.bool (k && k')) := fun H1 p Q q =>
  .on (pe_and eE eE) (ha H1 p _ fun x H2 N p2 n hx => by
    refine ⟨k, hx.bool_inv, ?_⟩
    cases k with
    | false =>
      rw [if_neg Bool.false_ne_true]
      exact q _ _ N p2 n (.bl _)
    | true =>
      rw [if_pos rfl]
      exact ((hb rfl).kp n.lo) H2 n.hi Q fun w H3 M p3 m hw => q _ _ M (p2.tr p3) (n.tr p2 m) hw)
theorem de_or {rest : List Expr} {k k' : Bool} (ha : DE X z H a (.bool k)) (hb : k = false → DE X z H (.BoolOp .Or (b :: rest) pos) (.bool k')) : DE X z H (.BoolOp .Or (a :: b :: rest) pos) (.bool (k || k')) := fun H1 p Q q =>
  .on (pe_or eE eE) (ha H1 p _ fun x H2 N p2 n hx => by
    refine ⟨k, hx.bool_inv, ?_⟩
    cases k with
    | true =>
      rw [if_pos rfl]
      exact q _ _ N p2 n (.bl _)
    | false =>
      rw [if_neg Bool.false_ne_true]
      exact ((hb rfl).kp n.lo) H2 n.hi Q fun w H3 M p3 m hw => q _ _ M (p2.tr p3) (n.tr p2 m) hw)
theorem de_not {k : Bool} (ha : DE X z H a (.bool k)) : DE X z H (.UnaryOp .Not a pos) (.bool (!k)) := fun H1 p Q q =>
  .on (pe_not eE) (ha H1 p _ fun x H2 N p2 n hx => ⟨k, hx.bool_inv, q _ _ N p2 n (.bl _)⟩)
theorem de_if {k : Bool} (hc : DT X z H c k) (ha : k = true → DE X z H a d) (hb : k = false → DE X z H b d) : DE X z H (.IfExp c a b pos) d := fun H1 p Q q => by
  have off : ∀ (H2 N H3 : Hp), Kp H1 H2 → Nw H H2 N H3 → Nw H H1 N H3 := fun H2 N H3 p2 n => ⟨n.lo, n.hi, fun a h h1 => n.off a h fun e => h1 (p2.none e)⟩
  refine .on (pe_ifExp eT eE eE) (hc H1 p _ fun H2 p2 => ?_)
  cases k with
  | true =>
    rw [if_pos rfl]
    exact ha rfl H2 (p.tr p2) Q fun w H3 N p3 n hw => q _ _ N (p2.tr p3) (off _ _ _ p2 n) hw
  | false =>
    rw [if_neg Bool.false_ne_true]
    exact hb rfl H2 (p.tr p2) Q fun w H3 N p3 n hw => q _ _ N (p2.tr p3) (off _ _ _ p2 n) hw

/-! tests -/
theorem dt_val {k : Bool} (h : DE X z H e (.bool k)) (he : ∀ whole, isTrue e X.env whole = (do let v ← whole; standAt e.pos; holding [v] (truthy v)) := by intro _; rfl) : DT X z H e k := fun H1 p Q q =>
  .on (pt_val eE he) (h H1 p _ fun x H2 N p2 n hx => ⟨k, hx.bool_inv, q _ p2⟩)
theorem dt_chain {op op' : CmpOp} {r r' : R2} {k k' : Bool} (ho : OpR X (compareOp op) r) (ho' : OpR X (compareOp op') r') (ha : DE X z H a da) (hb : DE X z H b db) (hr : RD r da db (.bool k)) (hc : k = true → DE X z H c dc ∧ RD r' db dc (.bool k'))
    (hm : lastMarks [op, op'] [b, c] = false := by with_unfolding_all rfl) : DT X z H (.Compare a [op, op'] [b, c] pos) (k && k') := fun H1 p Q q =>
  .on (pt_chain ho ho' eE eE eE hm) (ha H1 p _ fun x H2 N p2 n hx => (hb.kp n.lo) H2 n.hi _ fun y H3 M p3 m hy => hr x y H3 M _ m.hi (hx.kp m.lo) hy fun v K N' kp n' hv => by
    refine ⟨k, hv.bool_inv, ?_⟩
    cases k with
    | false =>
      rw [if_neg Bool.false_ne_true]
      exact ⟨false, rfl, q _ ((p2.tr p3).tr kp)⟩
    | true =>
      rw [if_pos rfl]
      obtain ⟨hc, hr'⟩ := hc rfl
      have l3 : Kp H N' := (n.lo.tr m.lo).tr n'.lo
      exact (hc.kp l3) K n'.hi _ fun w H5 N5 p5 n5 hw => hr' y w H5 N5 _ n5.hi (hy.kp (n'.lo.tr n5.lo)) hw fun v' K' N6 kp' n6 hv' => ⟨k', hv'.bool_inv, q _ ((((p2.tr p3).tr kp).tr p5).tr kp')⟩)
theorem dt_not {k : Bool} (h : DT X z H a k) : DT X z H (.UnaryOp .Not a pos) (!k) := fun H1 p Q q => .on (pt_not eT) (h H1 p _ fun H2 p2 => q _ p2)
theorem dt_of {k : Bool} (h : DW X z H e k) : DT X z H e k := fun H1 p Q q => .on (PW.pt eW) (h H1 p Q q)
theorem dw_and1 {k : Bool} (h : DT X z H a k) : DW X z H (.BoolOp .And [a] pos) k := fun H1 p Q q => .on (pw_and1 eT) (h H1 p Q q)
theorem dw_or1 {k : Bool} (h : DT X z H a k) : DW X z H (.BoolOp .Or [a] pos) k := fun H1 p Q q => .on (pw_or1 eT) (h H1 p Q q)
theorem dw_and {rest : List Expr} {k k' : Bool} (ha : DT X z H a k) (hb : k = true → DW X z H (.BoolOp .And (b :: rest) pos) k') : DW X z H (.BoolOp .And (a :: b :: rest) pos) (k && k') := fun H1 p Q q =>
  .on (pw_and eT eW) (ha H1 p _ fun H2 p2 => by
    cases k with
    | false =>
      rw [if_neg Bool.false_ne_true]
      exact q _ p2
    | true =>
      rw [if_pos rfl]
      exact hb rfl H2 (p.tr p2) Q fun H3 p3 => q _ (p2.tr p3))
theorem dw_or {rest : List Expr} {k k' : Bool} (ha : DT X z H a k) (hb : k = false → DW X z H (.BoolOp .Or (b :: rest) pos) k') : DW X z H (.BoolOp .Or (a :: b :: rest) pos) (k || k') := fun H1 p Q q =>
  .on (pw_or eT eW) (ha H1 p _ fun H2 p2 => by
    cases k with
    | true =>
      rw [if_pos rfl]
      exact q _ p2
    | false =>
      rw [if_neg Bool.false_ne_true]
      exact hb rfl H2 (p.tr p2) Q fun H3 p3 => q _ (p2.tr p3))

/-! blocks -/
theorem Nw.from {H H1 H2 N H3 : Hp} (p2 : Kp H1 H2) (n : Nw H H2 N H3) : Nw H H1 N H3 := ⟨n.lo, n.hi, fun a h h1 => n.off a h fun e => h1 (p2.none e)⟩
theorem db_ret (h : DE X z H e d) : DB X z H [.Return (some e) pos] d := fun H1 p D q => .on (pss_one (ps_ret eE)) (h H1 p _ fun v H2 N p2 n hv => q _ _ N p2 n hv)
theorem db_if {k : Bool} {t f rest : List Stmt} (hc : DT X z H c k) (ht : k = true → DB X z H t d) (hf : k = false → DB X z H (f ++ rest) d) (hr : f = [] := by rfl) : DB X z H (.If c t f pos :: rest) d := fun H1 p D q => by
  subst hr
  refine .on (pss_cons (ps_if eT eB pss_nil) eB) (hc H1 p _ fun H2 p2 => ?_)
  cases k with
  | true =>
    rw [if_pos rfl]
    exact ht rfl H2 (p.tr p2) _ fun v H3 N p3 n hv => q _ _ N (p2.tr p3) (n.from p2) hv
  | false =>
    rw [if_neg Bool.false_ne_true]
    exact hf rfl H2 (p.tr p2) D fun v H3 N p3 n hv => q _ _ N (p2.tr p3) (n.from p2) hv
theorem db_set (i : Nat) {rest : List Stmt} {pos' : Pos} {d' : PyData} (hN : X.N.Nodup) (he : DE X z H e d) (hb : ∀ v N, Kp H N → Dat N v d → DB X (z.set i (some v)) N rest d')
    (hi : X.N[i]? = some x := by rfl) (hx : Loc X.env.scope x := by first | exact Or.inl rfl | exact Or.inr rfl) (hs : swapsWith e (some (.Name x pos')) pos.line X.env = pure false := by rfl)
    (hf : X.fn x = true ∨ X.env.scope.names.lookup x = some .local := by first | exact .inl rfl | exact .inr rfl) : DB X z H (.Assign [.Name x pos'] e pos :: rest) d' := fun H1 p D q =>
  .on (pss_cons (ps_set hN hi hx eE hs hf) eB) (he H1 p _ fun v H2 N p2 n hv => hb v N n.lo hv H2 n.hi D fun v' H3 M p3 m hv' => q _ _ M (p2.tr p3) (n.tr p2 m) hv')
end
end Fr

set_option Elab.async false
set_option linter.all false
set_option maxRecDepth 100000
set_option maxHeartbeats 2000000
set_option autoImplicit false
namespace Fr
open PySem PySem.Spec PyProof.Rows L2

/-! what a datum is -/
def tyN : PyData → String
  | .none => "NoneType" | .bool _ => "bool" | .int _ => "int" | .str _ => "str" | .list _ => "list" | .tuple _ => "tuple" | .dict _ => "dict"
def isTup : PyData → Bool | .tuple _ => true | _ => false
def isLst : PyData → Bool | .list _ => true | _ => false
def isStr : PyData → Bool | .str _ => true | _ => false
def isBl : PyData → Bool | .bool _ => true | _ => false
def isIn : PyData → Bool | .int _ => true | .bool _ => true | _ => false
theorem kit_tup : ∀ d : PyData, kitB (tyN d) "tuple" = some (isTup d)
  | .none => (by decide +kernel : kitB "NoneType" "tuple" = some false)
  | .bool _ => (by decide +kernel : kitB "bool" "tuple" = some false)
  | .int _ => (by decide +kernel : kitB "int" "tuple" = some false)
  | .str _ => (by decide +kernel : kitB "str" "tuple" = some false)
  | .list _ => (by decide +kernel : kitB "list" "tuple" = some false)
  | .tuple _ => (by decide +kernel : kitB "tuple" "tuple" = some true)
  | .dict _ => (by decide +kernel : kitB "dict" "tuple" = some false)
theorem kit_str : ∀ d : PyData, kitB (tyN d) "str" = some (isStr d)
  | .none => (by decide +kernel : kitB "NoneType" "str" = some false)
  | .bool _ => (by decide +kernel : kitB "bool" "str" = some false)
  | .int _ => (by decide +kernel : kitB "int" "str" = some false)
  | .str _ => (by decide +kernel : kitB "str" "str" = some true)
  | .list _ => (by decide +kernel : kitB "list" "str" = some false)
  | .tuple _ => (by decide +kernel : kitB "tuple" "str" = some false)
  | .dict _ => (by decide +kernel : kitB "dict" "str" = some false)
theorem kit_bool : ∀ d : PyData, kitB (tyN d) "bool" = some (isBl d)
  | .none => (by decide +kernel : kitB "NoneType" "bool" = some false)
  | .bool _ => (by decide +kernel : kitB "bool" "bool" = some true)
  | .int _ => (by decide +kernel : kitB "int" "bool" = some false)
  | .str _ => (by decide +kernel : kitB "str" "bool" = some false)
  | .list _ => (by decide +kernel : kitB "list" "bool" = some false)
  | .tuple _ => (by decide +kernel : kitB "tuple" "bool" = some false)
  | .dict _ => (by decide +kernel : kitB "dict" "bool" = some false)
theorem kit_int : ∀ d : PyData, kitB (tyN d) "int" = some (isIn d)
  | .none => (by decide +kernel : kitB "NoneType" "int" = some false)
  | .bool _ => (by decide +kernel : kitB "bool" "int" = some true)
  | .int _ => (by decide +kernel : kitB "int" "int" = some true)
  | .str _ => (by decide +kernel : kitB "str" "int" = some false)
  | .list _ => (by decide +kernel : kitB "list" "int" = some false)
  | .tuple _ => (by decide +kernel : kitB "tuple" "int" = some false)
  | .dict _ => (by decide +kernel : kitB "dict" "int" = some false)
section
variable {X : Cx} {z : L2.St} {H H' : Hp} {e a b c : Expr} {es : List Expr} {st : Stmt} {sts : List Stmt} {pos p p1 p2 : Pos} {d da db dc : PyData} {ds : List PyData} {v : V} {i : Nat} {x : Str}
theorem Dat.ty {K : PySem.W.Frag} (h : Dat H v d) : TyX K H v (.type (tyN d)) := by
  cases h with
  | non => exact .base .non
  | bl b => exact .base (.bl b)
  | int i => exact .base (.int i)
  | str x => exact .base (.str x)
  | lst h _ => exact .base (.lst h)
  | tup h _ => exact .base (.tup h)
  | dct h _ _ => exact .base (.dK h)
theorem de_isi {T : Str} {n : String} {k : Bool} (he : DE X z H e d) (hk : kitB (tyN d) n = some k) (h1 : X.mg "isinstance" = none) (h2 : X.mg T = none) (hv : bootBuiltins T = some (.type n) := by decide +kernel)
    (g1 : Gl X "isinstance" := by rfl) (g2 : Gl X T := by rfl) (hb : bootBuiltins "isinstance" = some (.builtin "isinstance") := by decide +kernel) (hn : T ≠ "__name__" := by decide) (hd : (T == ("__debug__" : Str)) = false := by decide)
    (s1 : starEach [e, .Name T p1] X.env = (false, eval e X.env) :: starEach [.Name T p1] X.env := by rfl) (s2 : starEach [.Name T p1] X.env = (false, eval (.Name T p1) X.env) :: starEach [] X.env := by rfl)
    (s3 : (backTo pos (starEach [.Name T p1] X.env)).any (·.1) = false := by rfl) :
    DE X z H (.Call (.Name "isinstance" p) [e, .Name T p1] [] pos) (.bool k) := fun H1 q Q hQ =>
  .on (pe_callB call_isi g1 h1 hb (pa_cons eE (pa_cons (pe_bltn g2 h2 hv (r := rfl) (v := .ty n) hn hd) pa_nil s2) s1) (he := s1) (hpl := s3))
    (he H1 q _ fun v H2 N q2 n' hv => ⟨v, .ty n, .type (tyN d), .type n, k, rfl, .ty n, (hv.kp n'.hi).ty, kit_ty hk, hQ _ _ N q2 n' (.bl k)⟩)

/-! comparisons -/
theorem rd_eq_int {i j : Int} : RD rEq (.int i) (.int j) (.bool (decide (i = j))) := fun x y K N Q p hx hy q => by
  rw [hx.int_inv, hy.int_inv]
  refine ⟨rfl, ?_⟩
  have e : decide (V.int i = V.int j) = decide (i = j) := by simp
  rw [e]
  exact q _ _ N .rfl (.rfl p) (.bl _)
theorem rd_ne_int {i j : Int} : RD rNe (.int i) (.int j) (.bool (!decide (i = j))) := fun x y K N Q p hx hy q => by
  rw [hx.int_inv, hy.int_inv]
  refine ⟨rfl, ?_⟩
  have e : decide (V.int i = V.int j) = decide (i = j) := by simp
  rw [e]
  exact q _ _ N .rfl (.rfl p) (.bl _)
theorem rd_eq_str {i j : Str} : RD rEq (.str i) (.str j) (.bool (decide (i = j))) := fun x y K N Q p hx hy q => by
  rw [hx.str_inv, hy.str_inv]
  refine ⟨rfl, ?_⟩
  have e : decide (V.str i = V.str j) = decide (i = j) := by simp
  rw [e]
  exact q _ _ N .rfl (.rfl p) (.bl _)
theorem rd_ne_str {i j : Str} : RD rNe (.str i) (.str j) (.bool (!decide (i = j))) := fun x y K N Q p hx hy q => by
  rw [hx.str_inv, hy.str_inv]
  refine ⟨rfl, ?_⟩
  have e : decide (V.str i = V.str j) = decide (i = j) := by simp
  rw [e]
  exact q _ _ N .rfl (.rfl p) (.bl _)
theorem rd_le_int {i j : Int} : RD (rI0 fun i j => .bl (decide (i ≤ j))) (.int i) (.int j) (.bool (decide (i ≤ j))) := fun x y K N Q p hx hy q => by
  rw [hx.int_inv, hy.int_inv]
  exact ⟨i, j, rfl, rfl, q _ _ N .rfl (.rfl p) (.bl _)⟩
theorem rd_lt_int {i j : Int} : RD (rI0 fun i j => .bl (decide (i < j))) (.int i) (.int j) (.bool (decide (i < j))) := fun x y K N Q p hx hy q => by
  rw [hx.int_inv, hy.int_inv]
  exact ⟨i, j, rfl, rfl, q _ _ N .rfl (.rfl p) (.bl _)⟩
theorem rd_ge_int {i j : Int} : RD (rI0 fun i j => .bl (decide (j ≤ i))) (.int i) (.int j) (.bool (decide (j ≤ i))) := fun x y K N Q p hx hy q => by
  rw [hx.int_inv, hy.int_inv]
  exact ⟨i, j, rfl, rfl, q _ _ N .rfl (.rfl p) (.bl _)⟩
theorem rd_gt_int {i j : Int} : RD (rI0 fun i j => .bl (decide (j < i))) (.int i) (.int j) (.bool (decide (j < i))) := fun x y K N Q p hx hy q => by
  rw [hx.int_inv, hy.int_inv]
  exact ⟨i, j, rfl, rfl, q _ _ N .rfl (.rfl p) (.bl _)⟩
theorem rd_le_str {i j : Str} : RD (fun x y H Q => ∃ i j, x = .str i ∧ y = .str j ∧ Q (.bl (!decide (j.cps.toList < i.cps.toList))) H) (.str i) (.str j) (.bool (!decide (j.cps.toList < i.cps.toList))) := fun x y K N Q p hx hy q => by
  rw [hx.str_inv, hy.str_inv]
  exact ⟨i, j, rfl, rfl, q _ _ N .rfl (.rfl p) (.bl _)⟩
theorem rd_add_int {i j : Int} : RD (rI0 fun i j => .int (i + j)) (.int i) (.int j) (.int (i + j)) := fun x y K N Q p hx hy q => by
  rw [hx.int_inv, hy.int_inv]
  exact ⟨i, j, rfl, rfl, q _ _ N .rfl (.rfl p) (.int _)⟩
theorem rd_sub_int {i j : Int} : RD (rI0 fun i j => .int (i - j)) (.int i) (.int j) (.int (i - j)) := fun x y K N Q p hx hy q => by
  rw [hx.int_inv, hy.int_inv]
  exact ⟨i, j, rfl, rfl, q _ _ N .rfl (.rfl p) (.int _)⟩

/-- x < y of data that are alike -/
def rLtD : R2 := fun x y H Q => ∃ da db, Dat H x da ∧ Dat H y db ∧ PySem.W.alike da db = true ∧ da ≠ .none ∧ min da.depth db.depth ≤ 60 ∧ Q (.bl (PySem.W.dataLt da db)) H
theorem op_ltD (hu : X.A.units + 64 < cLine) : OpR X (compareOp .Lt) rLtD := by
  intro pins s σ H x y v u Q I rx ry h
  obtain ⟨da, db, hx, hy, hal, hn, hd, q⟩ := h
  obtain ⟨as, r1⟩ := hx.reads I rx
  obtain ⟨bs, r2⟩ := hy.reads I ry
  exact PySem.W.rcLt_alike da db X.A s v u as bs r1 r2 hal hn (by omega) X.prog X.w X.xe _ ⟨.bl _, H, I, rfl, q⟩
theorem rd_ltD (h : PySem.W.alike da db = true) (hn : da ≠ .none) (hd : min da.depth db.depth ≤ 60) : RD rLtD da db (.bool (PySem.W.dataLt da db)) := fun x y K N Q p hx hy q => ⟨da, db, hx.kp p, hy.kp p, h, hn, hd, q _ _ N .rfl (.rfl p) (.bl _)⟩

/-! any datum in a tuple of texts -/
section
open PySem.SeqAt MeetsSeq
open AutoSeq1 (wpAny_loadPart')
theorem str_dict_no (b : Str) (u : Tok) (l : Addr) (o : Obj) (es : Array DictEntry) (n : Nat) (hd : o.data = .dict es n) :
    Meets (Builtin.«str.__eq__» ⟨[.str b u, .ref l], []⟩) (fun _ R s => s.heap.get? l = some o ∧ R (.ok (.ret .notImplemented)) s) :=
  .of_wp fun prog w A R s h => by obtain ⟨hp, g, d, tk, os⟩ := s; obtain ⟨hl, h⟩ := h; obtain ⟨oc, od, dt, sl⟩ := o; simp only at hd; subst hd; wp_walk using wpAny_loadPart' hl, wpAny_load hl; exact ⟨_, rfl, h⟩
theorem dict_str_no (b : Str) (u : Tok) (l : Addr) (o : Obj) (es : Array DictEntry) (n : Nat) (hc : o.cls = .type "dict") (hd : o.data = .dict es n) :
    Meets (Builtin.«dict.__eq__» ⟨[.ref l, .str b u], []⟩) (fun _ R s => s.heap.get? l = some o ∧ R (.ok (.ret .notImplemented)) s) :=
  .of_wp fun prog w A R s h => by obtain ⟨hp, g, d, tk, os⟩ := s; obtain ⟨hl, h⟩ := h; obtain ⟨oc, od, dt, sl⟩ := o; simp only at hd hc; subst hd hc; have f1 := F.sub_str_dict; wp_walk using wpAny_loadPart' hl, wpAny_load hl; exact ⟨_, rfl, h⟩
end
end
end Fr

set_option Elab.async false
set_option linter.all false
set_option maxRecDepth 100000
set_option maxHeartbeats 2000000
set_option autoImplicit false
namespace Fr
open PySem PySem.Spec PyProof.Rows L2
section
open PySem.SeqAt MeetsSeq
variable {A : Around} {s : Shared}
theorem rcAt_str_dict {l : Addr} {o : Obj} {es : Array DictEntry} {n : Nat} (b : Str) (u : Tok) (ho : s.heap.get? l = some o) (hc : o.cls = .type "dict") (hd : o.data = .dict es n) (hu : A.units < cLine) : RcAt A s (.str b u) (.ref l) false := fun prog w E Q h =>
  rc_eq_decline_or (k := false) (typeIs_str s b u) ⟨_, ho, hc⟩ (by decide) F.sub_dict_str F.slot_str_eq F.slot_dict_eq_refl
    (fun _ hq => call_meets F.slot_str_eq (typeIs_str s b u) F.entry_str_eq (F.args_str_eq_2 _ _) (str_dict_no b u l o es n hd) ⟨ho, hq⟩)
    (fun _ hq => call_meets F.slot_dict_eq_refl ⟨_, ho, hc⟩ F.entry_dict_eq (F.args_dict_eq_2 _ _) (dict_str_no b u l o es n hc hd) ⟨ho, hq⟩)
    (fun _ hq => wpAny_of_eq (rfl : isSame (.str b u) (.ref l) = pure false) hq) (.inr hu) h
theorem eqAt_str_dict {l : Addr} {o : Obj} {es : Array DictEntry} {n : Nat} (b : Str) (u : Tok) (ho : s.heap.get? l = some o) (hc : o.cls = .type "dict") (hd : o.data = .dict es n) (hu : A.units < cLine) : EqAt A s (.str b u) (.ref l) false := fun prog w E Q h => by
  unfold eqBool
  refine wpAny_holding ?_
  refine wpAny_ite_split (fun hab => absurd (eq_of_beq hab) nofun) (fun _ => ?_)
  exact wpAny_bind (rcAt_str_dict b u ho hc hd hu prog w E _ (wpAny_truthy_bool h))
end
def isS (w : Str) : PyData → Bool
  | .str x => decide (w = x)
  | _ => false
section
variable {X : Cx} {z : L2.St} {H H' : Hp} {e a b c : Expr} {es : List Expr} {st : Stmt} {sts : List Stmt} {pos p p1 p2 : Pos} {d da db dc : PyData} {ds : List PyData} {v : V} {i : Nat} {x : Str} {pins : List (Addr × Obj)} {s : Shared}
open PySem.SeqAt in
theorem Dat.eqStr {A : Around} (I : Inv X pins z H s) (h : Dat H v d) {u : Value} (r : RelV v u) (w : Str) (t : Tok) (hu : A.units < cLine) : EqAt A s (.str w t) u (isS w d) := by
  cases h with
  | non => cases r; exact EqAt.str_none w t
  | bl b => cases r; exact EqAt.str_bool w t b
  | int i => obtain ⟨k, rfl⟩ := r; exact EqAt.str_int w t i k
  | str x =>
    obtain ⟨k, rfl⟩ := r
    have e := EqAt.str_str (A := A) (s := s) w t x k
    have q : isS w (.str x) = (w == x) := by
      show decide (w = x) = (w == x)
      by_cases h : w = x
      · subst h; simp
      · rw [decide_eq_false h]; exact (beq_eq_false_iff_ne.mpr h).symm
    rw [q]
    exact e
  | lst h l =>
    cases r
    obtain ⟨_, its, n, rv, ho⟩ := I.hok _ _ h
    exact EqAt.str_list w t ⟨_, ho, rfl, _, rfl⟩ hu
  | tup h l =>
    cases r
    obtain ⟨_, its, rv, ht⟩ := I.hok _ _ h
    exact EqAt.str_tuple w t ht hu
  | dct h k l =>
    cases r
    obtain ⟨_, _, vs, kv, o, es, ep, ho, hx, hd, _⟩ := I.hok _ _ h
    exact eqAt_str_dict w t ho hx.1 hd hu
/-- x in a tuple of texts, x any datum -/
def rInW (neg : Bool) : R2 := fun x y H Q => ∃ (d : PyData) (a : Addr) (ws : List Str), Dat H x d ∧ y = .ref a ∧ H a = some (.tup (ws.map V.str)) ∧ Q (.bl (if neg then !ws.any (fun w => isS w d) else ws.any fun w => isS w d)) H
def txtOf : Value → Str | .str x _ => x | _ => ""
theorem any_txt (f : Str → Bool) : ∀ {ws : List Str} {us : List Value}, Vals (ws.map V.str) us → (us.any fun u => f (txtOf u)) = ws.any f
  | [], _, r => by cases r; rfl
  | w :: ws, _, r => by
    cases r with
    | cons r1 r2 =>
      obtain ⟨t, rfl⟩ := r1
      rw [List.any_cons, List.any_cons, any_txt f r2]
      rfl
theorem txt_mem : ∀ {ws : List Str} {us : List Value} {u : Value}, Vals (ws.map V.str) us → u ∈ us → ∃ w t, u = .str w t
  | [], _, _, r, h => by cases r; cases h
  | w :: ws, _, _, r, h => by
    cases r with
    | cons r1 r2 =>
      rcases List.mem_cons.mp h with e | h
      · obtain ⟨t, q⟩ := r1
        exact ⟨w, t, e.trans q⟩
      · exact txt_mem r2 h
theorem op_inW (hu : X.A.units + 64 < cLine) : OpR X (compareOp .In) (rInW false) := by
  intro pins s σ H x y v u Q I rx ry h
  obtain ⟨d, a, ws, hx, rfl, ha, q⟩ := h
  cases ry
  obtain ⟨_, its, rv, ht⟩ := I.hok _ _ ha
  refine SeqAt.in_tupleAt (fun y => isS (txtOf y) d) ht (fun y hy => ?_) ⟨.bl _, H, I, rfl, ?_⟩
  · obtain ⟨w, t, rfl⟩ := txt_mem rv (by simpa using hy)
    exact hx.eqStr I rx w t (by show X.A.units + 1 < cLine; omega)
  · have e := any_txt (fun w => isS w d) rv
    rw [← Array.any_toList, e]
    exact q
theorem op_notInW (hu : X.A.units + 64 < cLine) : OpR X (compareOp .NotIn) (rInW true) := by
  intro pins s σ H x y v u Q I rx ry h
  obtain ⟨d, a, ws, hx, rfl, ha, q⟩ := h
  cases ry
  obtain ⟨_, its, rv, ht⟩ := I.hok _ _ ha
  refine SeqAt.notIn_tupleAt (fun y => isS (txtOf y) d) ht (fun y hy => ?_) ⟨.bl _, H, I, rfl, ?_⟩
  · obtain ⟨w, t, rfl⟩ := txt_mem rv (by simpa using hy)
    exact hx.eqStr I rx w t (by show X.A.units + 1 < cLine; omega)
  · have e := any_txt (fun w => isS w d) rv
    rw [← Array.any_toList, e]
    exact q
theorem DatL.strs : ∀ {xs : List V} {ws : List Str}, DatL H xs (ws.map PyData.str) → xs = ws.map V.str
  | _, [], h => by cases h; rfl
  | _, w :: ws, h => by
    cases h with
    | cons h1 h2 => rw [h1.str_inv, DatL.strs h2]; rfl
theorem DatL.bools : ∀ {xs : List V} {ws : List Bool}, DatL H xs (ws.map PyData.bool) → xs = ws.map V.bl
  | _, [], h => by cases h; rfl
  | _, w :: ws, h => by
    cases h with
    | cons h1 h2 => rw [h1.bool_inv, DatL.bools h2]; rfl
theorem DatL.ints : ∀ {xs : List V} {ws : List Int}, DatL H xs (ws.map PyData.int) → xs = ws.map V.int
  | _, [], h => by cases h; rfl
  | _, w :: ws, h => by
    cases h with
    | cons h1 h2 => rw [h1.int_inv, DatL.ints h2]; rfl
theorem rd_inW {ws : List Str} (e : ds = ws.map PyData.str) : RD (rInW false) d (.tuple ds) (.bool (ws.any fun w => isS w d)) := fun x y K N Q p hx hy q => by
  subst e
  obtain ⟨l, xs, rfl, hl, hd⟩ := hy.tup_inv
  exact ⟨d, l, ws, hx.kp p, rfl, by rw [p _ _ hl, hd.strs], q _ _ N .rfl (.rfl p) (.bl _)⟩
theorem rd_notInW {ws : List Str} (e : ds = ws.map PyData.str) : RD (rInW true) d (.tuple ds) (.bool (!ws.any fun w => isS w d)) := fun x y K N Q p hx hy q => by
  subst e
  obtain ⟨l, xs, rfl, hl, hd⟩ := hy.tup_inv
  exact ⟨d, l, ws, hx.kp p, rfl, by rw [p _ _ hl, hd.strs], q _ _ N .rfl (.rfl p) (.bl _)⟩

/-! len, an item, a part -/
def lenD : PyData → Nat
  | .tuple ds => ds.length | .list ds => ds.length | .str x => x.length | _ => 0
def hasLen : PyData → Bool
  | .tuple _ => true | .list _ => true | .str x => decide (x.length ≤ 1000000) | _ => false
theorem Dat.lenV {K : PySem.W.Frag} (hv : Dat H v d) (hk : hasLen d = true) : LenV K v H (lenD d) := by
  cases hv with
  | str x =>
    have h : decide (x.length ≤ 1000000) = true := hk
    exact ⟨big_of (of_decide_eq_true h), rfl⟩
  | lst h l => exact Or.inl ⟨_, SqL.of h, l.len.symm⟩
  | tup h l => exact Or.inr ⟨_, SqT.of h, l.len.symm⟩
  | non => cases hk
  | bl _ => cases hk
  | int _ => cases hk
  | dct _ _ _ => cases hk
theorem de_len (he : DE X z H e d) (hk : hasLen d = true) (h1 : X.mg "len" = none) (g1 : Gl X "len" := by rfl)
    (s1 : starEach [e] X.env = (false, eval e X.env) :: starEach [] X.env := by rfl) (s3 : (backTo pos (starEach [] X.env)).any (·.1) = false := by rfl) :
    DE X z H (.Call (.Name "len" p) [e] [] pos) (.int (lenD d)) := fun H1 q Q hQ =>
  .on (pe_callB call_len g1 h1 PySem.boot_len (pa_cons eE pa_nil s1) (he := s1) (hpl := s3))
    (he H1 q _ fun v H2 N q2 n hv => ⟨v, lenD d, rfl, (hv.kp n.hi).lenV hk, hQ _ _ N q2 n (.int _)⟩)
theorem ixN_len {vs : List V} (h : DatL H vs ds) {k : Int} {j : Nat} (e : ixN ds.length k = some j) : ixN vs.length k = some j := by rw [h.len]; exact e
theorem DatL.atI {vs : List V} (h : DatL H vs ds) {k : Int} (e : L2.atI ds k = some d) : ∃ v, L2.atI vs k = some v ∧ Dat H v d := by
  unfold L2.atI at e ⊢
  rw [h.len]
  cases q : ixN ds.length k with
  | none => rw [q] at e; cases e
  | some j =>
    rw [q] at e
    exact h.get e
theorem rd_ixT {X : Cx} {k : Int} (e : L2.atI ds k = some d) : RD (rIxT X.K) (.tuple ds) (.int k) d := fun x y K N Q p hx hy q => by
  obtain ⟨l, xs, rfl, hl, hd⟩ := hx.tup_inv
  obtain ⟨v, h1, h2⟩ := hd.atI e
  rw [hy.int_inv]
  exact ⟨l, xs, k, v, rfl, rfl, SqT.of (p _ _ hl), h1, q _ _ N .rfl (.rfl p) h2⟩
theorem rd_ixL {X : Cx} {k : Int} (e : L2.atI ds k = some d) : RD (rIxL X.K) (.list ds) (.int k) d := fun x y K N Q p hx hy q => by
  obtain ⟨l, xs, rfl, hl, hd⟩ := hx.lst_inv
  obtain ⟨v, h1, h2⟩ := hd.atI e
  rw [hy.int_inv]
  exact ⟨l, xs, k, v, rfl, rfl, SqL.of (p _ _ hl), h1, q _ _ N .rfl (.rfl p) h2⟩
theorem de_ix {r : R2} (hr : IxR X r) (hd : RD r da db d) (ha : DE X z H a da) (hb : DE X z H b db) (hs : PlainIx b := by exact fun _ _ => rfl) : DE X z H (.Subscript a b pos) d := fun H1 p Q q =>
  .on (pe_ix hr eE eE hs) (ha H1 p _ fun x H2 N p2 n hx => (hb.kp n.lo) H2 n.hi _ fun y H3 M p3 m hy => hd x y H3 M Q m.hi (hx.kp m.lo) hy fun v K N' k n' hv => q v K N' ((p2.tr p3).tr k) ((n.tr p2 m).tr (p2.tr p3) n') hv)
end
end Fr

set_option Elab.async false
set_option linter.all false
set_option maxRecDepth 100000
set_option maxHeartbeats 2000000
set_option autoImplicit false
namespace Fr
open PySem PySem.Spec PyProof.Rows L2

theorem yes {A B : Prop} (h : A) : if true = true then A else B := by
  rw [if_pos rfl]
  exact h
def uni (A B : Hp) : Hp := fun a => match A a with | some o => some o | none => B a
theorem uni_l {A B : Hp} : Kp A (uni A B) := fun a o e => by
  show (match A a with | some o => some o | none => B a) = some o
  rw [e]
theorem uni_r {A B K : Hp} (p : Kp A K) (q : Kp B K) : Kp B (uni A B) := fun a o e => by
  show (match A a with | some o => some o | none => B a) = some o
  cases h : A a with
  | none => exact e
  | some o' =>
    have h1 := p _ _ h
    rw [q _ _ e] at h1
    exact h1.symm
theorem uni_in {A B K : Hp} (p : Kp A K) (q : Kp B K) : Kp (uni A B) K := fun a o e => by
  have e' : (match A a with | some o => some o | none => B a) = some o := e
  cases h : A a with
  | none => rw [h] at e'; exact q _ _ e'
  | some o' => rw [h] at e'; cases e'; exact p _ _ h
theorem uni_no {A B : Hp} {a : Addr} (p : A a = none) (q : B a = none) : uni A B a = none := by
  show (match A a with | some o => some o | none => B a) = none
  rw [p]
  exact q

def DO (X : Cx) (z : L2.St) (H : Hp) (o : Option Expr) (k : Option Int) : Prop := ∃ t : TO, PO X o t ∧ ∀ H1, Kp H H1 → ∀ Q : Option Int → Hp → Prop, (∀ H2, Kp H1 H2 → Q k H2) → t z H1 Q
def cutD (ds : List PyData) (lo hi : Option Int) : List PyData := (ds.drop (HT.sIx ds.length 0 lo)).take (HT.sIx ds.length ds.length hi - HT.sIx ds.length 0 lo)
section
variable {X : Cx} {z : L2.St} {H H' N : Hp} {e a b c : Expr} {es : List Expr} {st : Stmt} {sts : List Stmt} {pos p p1 p2 : Pos} {d da db dc : PyData} {ds : List PyData} {v : V} {i : Nat} {x : Str} {lo hi : Option Expr} {k l : Option Int}
theorem do_none : DO X z H none none := ⟨tNoPart, po_none, fun H1 p Q q => q H1 .rfl⟩
theorem do_some {n : Int} (h : DE X z H e (.int n)) : DO X z H (some e) (some n) := ⟨_, po_some eE, fun H1 p Q q => h H1 p _ fun v H2 N p2 _ hv => ⟨n, hv.int_inv, q H2 p2⟩⟩
theorem DatL.cut {H : Hp} {vs : List V} (h : DatL H vs ds) (lo hi : Option Int) : DatL H (cutV vs lo hi) (cutD ds lo hi) := by
  unfold cutV cutD
  rw [h.len]
  exact (h.drop _).take _
theorem cutD_whole (h : HT.sIx ds.length 0 k = 0 ∧ HT.sIx ds.length ds.length l = ds.length) : cutD ds k l = ds := by
  unfold cutD
  rw [h.1, h.2, List.drop_zero, Nat.sub_zero, List.take_length]
theorem de_cutT (he : DE X z H e (.tuple ds)) (h1 : DO X z H lo k) (h2 : DO X z H hi l) : DE X z H (.Subscript e (.Slice lo hi none p2) pos) (.tuple (cutD ds k l)) := fun H1 p Q q => by
  obtain ⟨t1, q1, r1⟩ := h1
  obtain ⟨t2, q2, r2⟩ := h2
  refine .on (pe_slice sl_tupA eE q1 q2) (he H1 p _ fun v H2 N p2 n hv => r1 H2 (p.tr p2) _ fun H3 p3 => r2 H3 ((p.tr p2).tr p3) _ fun H4 p4 => ?_)
  obtain ⟨a, xs, rfl, ha, hx⟩ := hv.tup_inv
  have hp : Kp H1 H4 := (p2.tr p3).tr p4
  have n4 : Nw H H1 N H4 := n.more (p3.tr p4)
  refine ⟨a, xs, rfl, SqT.of (n4.hi _ _ ha), fun hw => ?_, fun _ m hm => ?_⟩
  · rw [hx.len] at hw
    rw [cutD_whole hw] at q
    exact q _ _ N hp n4 (.tup ha hx)
  · exact q _ _ (upd N m (.tup (cutV xs k l))) (hp.tr (.new hm)) (n4.tr hp (.laid n4.hi hm)) (.tup upd_same ((hx.cut k l).kp (.new (n4.hi.none hm))))
theorem de_cutL (he : DE X z H e (.list ds)) (h1 : DO X z H lo k) (h2 : DO X z H hi l) : DE X z H (.Subscript e (.Slice lo hi none p2) pos) (.list (cutD ds k l)) := fun H1 p Q q => by
  obtain ⟨t1, q1, r1⟩ := h1
  obtain ⟨t2, q2, r2⟩ := h2
  refine .on (pe_slice sl_list eE q1 q2) (he H1 p _ fun v H2 N p2 n hv => r1 H2 (p.tr p2) _ fun H3 p3 => r2 H3 ((p.tr p2).tr p3) _ fun H4 p4 => ?_)
  obtain ⟨a, xs, rfl, ha, hx⟩ := hv.lst_inv
  have hp : Kp H1 H4 := (p2.tr p3).tr p4
  have n4 : Nw H H1 N H4 := n.more (p3.tr p4)
  exact ⟨a, xs, rfl, SqL.of (n4.hi _ _ ha), fun m hm => q _ _ (upd N m (.lst (cutV xs k l))) (hp.tr (.new hm)) (n4.tr hp (.laid n4.hi hm)) (.lst upd_same ((hx.cut k l).kp (.new (n4.hi.none hm))))⟩
theorem rd_catT {xs ys : List PyData} (hl : xs.length + ys.length ≤ 1000000) : RD (rCatA X.K) (.tuple xs) (.tuple ys) (.tuple (xs ++ ys)) := fun x y K N Q p hx hy q => by
  obtain ⟨l, us, rfl, h1, h2⟩ := hx.tup_inv
  obtain ⟨m, ws, rfl, h3, h4⟩ := hy.tup_inv
  refine ⟨l, m, us, ws, rfl, rfl, SqT.of (p _ _ h1), SqT.of (p _ _ h3), big_of (by rw [h2.len, h4.len]; exact hl), fun e => ?_, fun _ e => ?_, fun _ _ n hn => ?_⟩
  · subst e
    cases h2
    exact q _ _ N .rfl (.rfl p) (.tup h3 h4)
  · subst e
    cases h4
    rw [List.append_nil] at q
    exact q _ _ N .rfl (.rfl p) (.tup h1 h2)
  · exact q _ _ (upd N n (.tup (us ++ ws))) (.new hn) (.laid p hn) (.tup upd_same ((h2.app h4).kp (.new (p.none hn))))
theorem rd_catL {xs ys : List PyData} (hl : xs.length + ys.length ≤ 1000000) : RD rCat (.list xs) (.list ys) (.list (xs ++ ys)) := fun x y K N Q p hx hy q => by
  obtain ⟨l, us, rfl, h1, h2⟩ := hx.lst_inv
  obtain ⟨m, ws, rfl, h3, h4⟩ := hy.lst_inv
  exact ⟨l, m, us, ws, rfl, rfl, p _ _ h1, p _ _ h3, big_of (by rw [h2.len, h4.len]; exact hl), fun n hn => q _ _ (upd N n (.lst (us ++ ws))) (.new hn) (.laid p hn) (.lst upd_same ((h2.app h4).kp (.new (p.none hn))))⟩

/-! what is walked -/
def ItD (J : It) (N : Hp) (ds : List PyData) : Prop := ∀ (i : Nat) (K : Hp), Kp N K → (∀ d, ds[i]? = some d → J.go i K ∧ ∀ x K', J.yld i K x K' → Kp K K' ∧ ∃ M, Nw N K M K' ∧ Dat M x d) ∧ (i = ds.length → J.stop i K)
def DI (X : Cx) (z : L2.St) (H : Hp) (tg e : Expr) (ds : List PyData) : Prop := ∃ w : TI, PI X tg e w ∧ ∀ H1, Kp H H1 → ∀ R : It → Hp → Prop, (∀ J H2 N, Kp H1 H2 → Nw H H1 N H2 → ItD J N ds → R J H2) → w z H1 R
theorem itd_tup {K : PySem.W.Frag} {a : Addr} {xs : List V} (h : N a = some (.tup xs)) (hd : DatL N xs ds) : ItD (Itt K a) N ds := fun i M p => by
  have s : SqT K M a xs := SqT.of (p _ _ h)
  refine ⟨fun d e => ?_, fun hl => ⟨xs, s, by rw [hd.len]; exact Nat.le_of_eq hl.symm⟩⟩
  obtain ⟨v, h1, h2⟩ := hd.get e
  refine ⟨⟨xs, v, s, h1⟩, fun x K' ⟨e1, e2⟩ => ?_⟩
  subst e1
  have := e2 xs s
  rw [h1] at this
  cases this
  exact ⟨.rfl, N, .rfl p, h2⟩
theorem itd_lst {K : PySem.W.Frag} {a : Addr} {xs : List V} (h : N a = some (.lst xs)) (hd : DatL N xs ds) : ItD (Itl K a) N ds := fun i M p => by
  have s : SqL K M a xs := SqL.of (p _ _ h)
  refine ⟨fun d e => ?_, fun hl => ⟨xs, s, by rw [hd.len]; exact Nat.le_of_eq hl.symm⟩⟩
  obtain ⟨v, h1, h2⟩ := hd.get e
  refine ⟨⟨xs, v, s, h1⟩, fun x K' ⟨e1, e2⟩ => ?_⟩
  subst e1
  have := e2 xs s
  rw [h1] at this
  cases this
  exact ⟨.rfl, N, .rfl p, h2⟩
def zipD (xs ys : List PyData) : List PyData := (xs.zip ys).map fun q => .tuple [q.1, q.2]
theorem zipD_get {xs ys : List PyData} {i : Nat} (h : (zipD xs ys)[i]? = some d) : ∃ x y, xs[i]? = some x ∧ ys[i]? = some y ∧ d = .tuple [x, y] := by
  unfold zipD at h
  rw [List.getElem?_map, List.zip_eq_zipWith, List.getElem?_zipWith] at h
  cases hx : xs[i]? with
  | none => rw [hx] at h; simp at h
  | some x =>
    cases hy : ys[i]? with
    | none => rw [hx, hy] at h; simp at h
    | some y =>
      rw [hx, hy] at h
      simp at h
      exact ⟨x, y, rfl, rfl, h.symm⟩
theorem zipD_len {xs ys : List PyData} : (zipD xs ys).length = min xs.length ys.length := by
  unfold zipD
  rw [List.length_map, List.length_zip]
theorem itd_zipT {K : PySem.W.Frag} {a b : Addr} {us ws : List V} {xs ys : List PyData} (h : N a = some (.tup us)) (hd : DatL N us xs) (h' : N b = some (.tup ws)) (hd' : DatL N ws ys) : ItD (RZ.ItzT K a b) N (zipD xs ys) := fun i M p => by
  have s : SqT K M a us := SqT.of (p _ _ h)
  have s' : SqT K M b ws := SqT.of (p _ _ h')
  refine ⟨fun d e => ?_, fun hl => ⟨us, ws, s, s', ?_⟩⟩
  · obtain ⟨x, y, e1, e2, rfl⟩ := zipD_get e
    obtain ⟨v, h1, h2⟩ := hd.get e1
    obtain ⟨w, h3, h4⟩ := hd'.get e2
    refine ⟨⟨us, ws, v, w, s, s', h1, h3⟩, fun q K' ⟨T, x', y', e5, nT, e6, e7, e8⟩ => ?_⟩
    have a1 := e7 us s
    have a2 := e8 ws s'
    rw [h1] at a1
    rw [h3] at a2
    cases a1
    cases a2
    subst e5 e6
    exact ⟨.new nT, _, .laid p nT, .tup upd_same (.cons (h2.kp (.new (p.none nT))) (.cons (h4.kp (.new (p.none nT))) .nil))⟩
  · rw [zipD_len] at hl
    have := hd.len
    have := hd'.len
    omega
theorem itd_zipL {K : PySem.W.Frag} {a b : Addr} {us ws : List V} {xs ys : List PyData} (h : N a = some (.lst us)) (hd : DatL N us xs) (h' : N b = some (.lst ws)) (hd' : DatL N ws ys) : ItD (Itz K a b) N (zipD xs ys) := fun i M p => by
  have s : SqL K M a us := SqL.of (p _ _ h)
  have s' : SqL K M b ws := SqL.of (p _ _ h')
  refine ⟨fun d e => ?_, fun hl => ⟨us, ws, s, s', ?_⟩⟩
  · obtain ⟨x, y, e1, e2, rfl⟩ := zipD_get e
    obtain ⟨v, h1, h2⟩ := hd.get e1
    obtain ⟨w, h3, h4⟩ := hd'.get e2
    refine ⟨⟨us, ws, v, w, s, s', h1, h3⟩, fun q K' ⟨T, x', y', e5, nT, e6, e7, e8⟩ => ?_⟩
    have a1 := e7 us s
    have a2 := e8 ws s'
    rw [h1] at a1
    rw [h3] at a2
    cases a1
    cases a2
    subst e5 e6
    exact ⟨.new nT, _, .laid p nT, .tup upd_same (.cons (h2.kp (.new (p.none nT))) (.cons (h4.kp (.new (p.none nT))) .nil))⟩
  · rw [zipD_len] at hl
    have := hd.len
    have := hd'.len
    omega
def signs (x : Str) : List PyData := x.cps.toList.map fun c => .str ⟨#[c]⟩
theorem itd_str {w : Str} : ItD (Its w) N (signs w) := fun i M p => by
  refine ⟨fun d e => ?_, fun hl => ?_⟩
  · unfold signs at e
    rw [List.getElem?_map] at e
    cases hc : w.cps.toList[i]? with
    | none => rw [hc] at e; simp at e
    | some c =>
      rw [hc] at e
      simp at e
      subst e
      have hc' : w.cps[i]? = some c := by rw [← Array.getElem?_toList]; exact hc
      obtain ⟨hlt, _⟩ := Array.getElem?_eq_some_iff.mp hc'
      refine ⟨hlt, fun x K' ⟨e1, c', e2, e3⟩ => ?_⟩
      rw [hc'] at e2
      cases e2
      subst e1 e3
      exact ⟨.rfl, N, .rfl p, .str _⟩
  · unfold signs at hl
    rw [List.length_map, Array.length_toList] at hl
    exact Nat.le_of_eq hl.symm
theorem di_tup {tg : Expr} (h : DE X z H e (.tuple ds)) : DI X z H tg e ds := ⟨_, pi_tup eE, fun H1 p R r => h H1 p _ fun v H2 N p2 n hv => by
  obtain ⟨a, xs, rfl, h1, h2⟩ := hv.tup_inv
  exact ⟨a, rfl, ⟨xs, SqT.of (n.hi _ _ h1)⟩, r _ _ N p2 n (itd_tup h1 h2)⟩⟩
theorem di_lst {tg : Expr} (h : DE X z H e (.list ds)) : DI X z H tg e ds := ⟨_, pi_list eE, fun H1 p R r => h H1 p _ fun v H2 N p2 n hv => by
  obtain ⟨a, xs, rfl, h1, h2⟩ := hv.lst_inv
  exact ⟨a, rfl, ⟨xs, SqL.of (n.hi _ _ h1)⟩, r _ _ N p2 n (itd_lst h1 h2)⟩⟩
theorem di_str {tg : Expr} {w : Str} (h : DE X z H e (.str w)) : DI X z H tg e (signs w) := ⟨_, pi_str eE, fun H1 p R r => h H1 p _ fun v H2 N p2 n hv => ⟨w, hv.str_inv, r _ _ N p2 n itd_str⟩⟩
theorem di_zipT {elts : List Expr} {kk : Nat} {tpos : Pos} {xs ys : List PyData} (ha : DE X z H a (.tuple xs)) (hb : DE X z H b (.tuple ys)) (hm : X.mg "zip" = none) (hg : Gl X "zip" := by rfl)
    (s1 : starEach [a, b] X.env = (false, eval a X.env) :: starEach [b] X.env := by rfl) (s2 : starEach [b] X.env = (false, eval b X.env) :: starEach [] X.env := by rfl) (s3 : (backTo pos (starEach [b] X.env)).any (·.1) = false := by rfl) :
    DI X z H (.Tuple elts kk tpos) (.Call (.Name "zip" p) [a, b] [] pos) (zipD xs ys) := ⟨_, RZ.pi_zipA hg hm (pa_cons eE (pa_cons eE pa_nil s2) s1) s1 s3, fun H1 q R r => ha H1 q _ fun v H2 N p2 n hv => (hb.kp n.lo) H2 n.hi _ fun w H3 M p3 m hw => by
  obtain ⟨l, us, rfl, h1, h2⟩ := (hv.kp m.lo).tup_inv
  obtain ⟨g, ws, rfl, h3, h4⟩ := hw.tup_inv
  exact ⟨l, g, us, ws, rfl, .inr ⟨SqT.of (m.hi _ _ h1), SqT.of (m.hi _ _ h3), r _ _ M (p2.tr p3) (n.tr p2 m) (itd_zipT h1 h2 h3 h4)⟩⟩⟩
theorem di_zipL {elts : List Expr} {kk : Nat} {tpos : Pos} {xs ys : List PyData} (ha : DE X z H a (.list xs)) (hb : DE X z H b (.list ys)) (hm : X.mg "zip" = none) (hg : Gl X "zip" := by rfl)
    (s1 : starEach [a, b] X.env = (false, eval a X.env) :: starEach [b] X.env := by rfl) (s2 : starEach [b] X.env = (false, eval b X.env) :: starEach [] X.env := by rfl) (s3 : (backTo pos (starEach [b] X.env)).any (·.1) = false := by rfl) :
    DI X z H (.Tuple elts kk tpos) (.Call (.Name "zip" p) [a, b] [] pos) (zipD xs ys) := ⟨_, RZ.pi_zipA hg hm (pa_cons eE (pa_cons eE pa_nil s2) s1) s1 s3, fun H1 q R r => ha H1 q _ fun v H2 N p2 n hv => (hb.kp n.lo) H2 n.hi _ fun w H3 M p3 m hw => by
  obtain ⟨l, us, rfl, h1, h2⟩ := (hv.kp m.lo).lst_inv
  obtain ⟨g, ws, rfl, h3, h4⟩ := hw.lst_inv
  exact ⟨l, g, us, ws, rfl, .inl ⟨SqL.of (m.hi _ _ h1), SqL.of (m.hi _ _ h3), r _ _ M (p2.tr p3) (n.tr p2 m) (itd_zipL h1 h2 h3 h4)⟩⟩⟩

/-! a list comprehension without a test -/
theorem de_lc {elt tg iter : Expr} {scope : Scope} {own : List (Str × Nat)} {g : TG} {f : PyData → PyData} (hi : DI X z H tg iter ds) (hl : ds.length ≤ 1000000)
    (hc : X.calm = true) (hN : X.N.Nodup) (ok : BlkOk X.N X.env.scope scope own)
    (hg : ∀ (s : Shared) (K : Hp) (C : Addr) (cl : List (Str × Addr)) (fp : List Addr), PG (X.blk s K scope (compEnvC scope cl C X.env) fp) tg g)
    (he : ∀ d ∈ ds, ∀ (v : V) (N K : Hp) (Q : L2.St → Hp → Prop), Kp H N → Kp N K → Dat N v d → (∀ z2, wipe z2 (own.map (·.2)) = wipe z (own.map (·.2)) →
      (∀ (s : Shared) (M : Hp) (C : Addr) (cl : List (Str × Addr)) (fp : List Addr), DE (X.blk s M scope (compEnvC scope cl C X.env) fp) z2 N elt (f d)) → Q z2 K) → g v (wipe z (own.map (·.2))) K Q)
    (hs : ∀ x, foldedSetIterable iter X.env x = pure x := by intro _; rfl) :
    DE X z H (.ListComp elt [⟨tg, iter, [], 0⟩] scope pos) (.list (ds.map f)) := fun H1 p Q q => by
  obtain ⟨w, hw, hi⟩ := hi
  refine .on (pe_lc (te := fun z2 K Q => ∀ (s : Shared) (M : Hp) (C : Addr) (cl : List (Str × Addr)) (fp : List Addr), WE (X.blk s M scope (compEnvC scope cl C X.env) fp) z2 K elt Q) (own := own) hc hN hw ok hg (fun _ _ _ _ _ => pts_nil)
    (fun s M C cl fp => ⟨fun pins s' z2 K Q I h => h s M C cl fp pins s' I⟩) hs) ?_
  refine hi H1 p _ fun J H2 N p2 n it => ?_
  intro D hD
  have hND : N D = none := n.hi.none hD
  have hH1D : H1 D = none := p2.none hD
  let R : Nat → Hp → Prop := fun i K => i ≤ ds.length ∧ Kp H2 K ∧ ∃ ys M, K D = some (.lst ys) ∧ M D = none ∧ Nw H H1 M K ∧ DatL M ys ((ds.take i).map f)
  refine ⟨fun i m K => m = ds.length - i ∧ R i K, ⟨ds.length, by omega, by omega, .new hD, [], H, upd_same, p.none hH1D, (Nw.rfl p).more (p2.tr (.new hD)), by rw [List.take_zero]; exact .nil⟩, ?_⟩
  rintro i m K ⟨rfl, hil, kp, ys, M, hy, hMD, hM, hdy⟩
  by_cases hlt : i < ds.length
  · have hd : ds[i]? = some ds[i] := List.getElem?_eq_getElem hlt
    obtain ⟨hgo, hyl⟩ := (it i K (n.hi.tr kp)).1 _ hd
    refine .inr ⟨hgo, R (i + 1), fun K' h => ⟨ds.length - (i + 1), by omega, rfl, h⟩, fun x K' hx => ?_⟩
    obtain ⟨k1, N1, n1, hdx⟩ := hyl x K' hx
    refine he _ (List.getElem_mem hlt) x N1 K' _ (n.lo.tr n1.lo) n1.hi hdx fun z2 hw2 hE => ⟨hw2, ?_⟩
    unfold tYes
    dsimp only
    rw [if_pos rfl]
    intro s M0 C cl fp
    refine hE s M0 C cl fp K' n1.hi _ fun y K4 N4 k4 n4 hdat => ?_
    have k14 : Kp K K4 := k1.tr k4
    have nn : Nw N K N4 K4 := n1.tr k1 n4
    have off : ∀ a, N a = none → K a ≠ none → N4 a = none := nn.off
    have hKD : K D ≠ none := by rw [hy]; exact fun q => nomatch q
    have mK : Kp M K4 := hM.hi.tr k14
    have hUD : uni M N4 D = none := uni_no hMD (off D hND hKD)
    have up : ∀ {A : Hp}, A D = none → Kp A K4 → Kp A (upd K4 D (.lst (ys ++ [y]))) := fun {A} hA q b o e => by
      have hb : b ≠ D := fun z => by rw [z, hA] at e; cases e
      rw [upd_ne hb]
      exact q b o e
    refine ⟨ys, k14 _ _ hy, ?_, hlt, ?_, ys ++ [y], uni M N4, upd_same, hUD, ⟨hM.lo.tr uni_l, up hUD (uni_in mK n4.hi), fun a h h1 => ?_⟩, ?_⟩
    · have : ys.length = i := by rw [hdy.len, List.length_map, List.length_take]; omega
      have := big_of hl
      omega
    · exact up hD (kp.tr k14)
    · have hKa : K a ≠ none := fun e => h1 (p2.none (kp.none e))
      exact uni_no (hM.off a h h1) (off a (n.off a h h1) hKa)
    · rw [List.take_add_one, hd, List.map_append]
      exact (hdy.kp uni_l).app (.cons (hdat.kp (uni_r mK n4.hi)) .nil)
  · have e : i = ds.length := by omega
    refine .inl ⟨(it i K (n.hi.tr kp)).2 (by omega), ?_⟩
    rw [e, List.take_length] at hdy
    refine q _ _ (upd M D (.lst ys)) (p2.tr kp) ⟨hM.lo.tr (.new hMD), fun b o e => ?_, fun b h h1 => ?_⟩ (.lst upd_same (hdy.kp (.new hMD)))
    · by_cases hb : b = D
      · subst hb
        rw [upd_same] at e
        rw [hy]
        exact e
      · rw [upd_ne hb] at e
        exact hM.hi _ _ e
    · have hb : b ≠ D := fun z => h1 (z ▸ hH1D)
      rw [upd_ne hb]
      exact hM.off b h h1
end
end Fr

set_option Elab.async false
set_option linter.all false
set_option maxRecDepth 100000
set_option maxHeartbeats 2000000
set_option autoImplicit false
namespace Fr
open PySem PySem.Spec PyProof.Rows L2

/-! defs that are called where no guard stands -/
structure FnG (P : Program) (w : World) (K : PySem.W.Frag) (mg : Str → Option Value) (base : Heap) (CX : CXT) (k : Nat) (f : Addr) (fd : FuncData) (ps : List Str) (sp : Sp) : Prop where
  cnt : ∀ vs H Q E, sp vs H Q E → vs.length = ps.length
  go : ∀ (A : Around) (outer : List Env) (s : Shared) (H : Hp) (args : Args) (us : List Value) (vs : List V) (Q : VK) (E : XK), A.guards = some [] → Room k A → Env0 P w K mg base A outer s H → BindsTo s fd args (ps.zip us) →
    Vals vs us → sp vs H Q E → codeAny (model P w) A (.call (.ref f) args) (CR CX outer P w H s Q E) s
section
variable {P : Program} {w : World} {K : PySem.W.Frag} {mg : Str → Option Value} {base : Heap} {CX : CXT} {k j : Nat} {f : Addr} {fd : FuncData} {ps : List Str} {sp sp' : Sp}
theorem FnG.of (F : FnOk P w K mg base CX k f fd ps sp) : FnG P w K mg base CX k f fd ps sp := ⟨F.len, fun A outer s H args us vs Q E _ => F.run A outer s H args us vs Q E⟩
theorem FnG.mono (F : FnG P w K mg base CX j f fd ps sp) (h : j ≤ k) : FnG P w K mg base CX k f fd ps sp :=
  ⟨F.cnt, fun A outer s H args us vs Q E hg hr => F.go A outer s H args us vs Q E hg (hr.mono h)⟩
theorem FnG.imp (F : FnG P w K mg base CX k f fd ps sp) (h : ∀ vs H Q E, sp' vs H Q E → sp vs H Q E) : FnG P w K mg base CX k f fd ps sp' :=
  ⟨fun vs H Q E q => F.cnt _ _ _ _ (h _ _ _ _ q), fun A outer s H args us vs Q E hg hr e b v q => F.go A outer s H args us vs Q E hg hr e b v (h _ _ _ _ q)⟩
/-- a def by its body -/
theorem fnG {x qual : Str} {st : Stmt} {N : List Str} (F : Fun K x qual st f fd) (S : FnScope N ps (defScope st)) (cnt : ∀ vs H Q E, sp vs H Q E → vs.length = ps.length)
    (hb : ∀ (cdv : Value) (A : Around) (outer : List Env) (s : Shared) (H : Hp) (vs : List V) (Q : VK) (E : XK), A.guards = some [] → Room k (A.deeper (envOfC qual (defScope st) s.heap.objs.size f cdv)) → sp vs H Q E →
      WB (cxOf CX P w K mg base N qual (defScope st) f cdv A outer s H E) { nx := fun _ H' => Q .non H', rt := Q } (start N vs) H (defBody st)) : FnG P w K mg base CX (k + 1) f fd ps sp := by
  obtain ⟨oc, od, kV, doc, pm, an, cdv, ct, osl, rfl, lk, hcd⟩ := F.ex
  refine ⟨cnt, fun A outer s H args us vs Q E hg hr e0 hbd r hsp => ?_⟩
  have inK : K.In s.heap := e0.mod.kin.keeps fun b o e => (e0.bs b o e).1
  have nolim : s.heap.NoLimit := e0.mod.nolimit.keeps fun b o e => (e0.bs b o e).1
  have kinds : ∀ y ∈ ps.zip us, (defScope st).names.lookup y.1 = some .local ∨ ((defScope st).names.lookup y.1 = some .cell ∧ ((cellsFrom (s.heap.objs.size + 1) (defScope st).names []).lookup y.1).isSome = true) := by
    rintro ⟨n, v⟩ hy
    have hm : n ∈ ps := (List.of_mem_zip hy).1
    exact (S.par n hm).imp id fun q => ⟨q, PySem.W.cellsFrom_some _ _ _ (.inl q)⟩
  refine codeAny_call_function hr.depth (inK _ _ lk) rfl S.co S.gen rfl (PySem.W.codeRec_of inK hcd) (hbd _ _ _ _ (wpAny_newFunctionEnv_cells S.kind kinds fun env he s1 xx => ?_))
  subst he
  refine ⟨nolim.keeps xx.toInCall.keep, codeAny_func ?_⟩
  have I := inv_start (CX := CX) (w := w) (E := E) S hr.hd e0 (cnt _ _ _ _ hsp) r xx
  refine wpAny_mono (hb cdv A outer s H vs Q E hg (hr.deeper _) hsp [] s1 I) (fun fl s' hs => ?_) fun _ _ q => q
  cases fl with
  | ret u => obtain ⟨v, _, H', J, rv, q⟩ := hs; exact ⟨v, H', J.os, J.bare, J.base, J.hok, rv, q⟩
  | next => obtain ⟨_, H', J, q⟩ := hs; exact ⟨V.non, H', J.os, J.bare, J.base, J.hok, rfl, q⟩
  | brk => exact hs.elim fun _ h => h.elim fun _ h => h.2.elim
  | cont => exact hs.elim fun _ h => h.elim fun _ h => h.2.elim
end
section
variable {X : Cx} {z : L2.St} {H : Hp} {CX : CXT} {k : Nat} {f : Addr} {fd : FuncData} {ps : List Str} {sp : Sp} {dvs : List V} {ds : List Value} {E : XK} {x : Str} {p pos : Pos} {e : Expr} {es : List Expr} {t : TA}
theorem goG {pins : List (Addr × Obj)} {s : Shared} {Q : VK} {us : List Value} {vs : List V} (F : FnG X.prog X.w X.K X.mg X.base CX k f fd ps sp) (hg : X.A.guards = some []) (hr : Room k X.A) (hb : Binds X.K fd ps ds) (hd : Vals dvs ds)
    (hx : Passes CX X E) (I : Inv X pins z H s) (r : Vals vs us) (h : sp (vs ++ dvs) H Q E) : wpAny (model X.prog X.w) X.A (call (.ref f) us) (EP X pins z Q) X.xe s := by
  have rr : Vals (vs ++ dvs) (us ++ ds) := r.append hd
  have hn : (us ++ ds).length = ps.length := rr.length ▸ F.cnt _ _ _ _ h
  refine wpAny_call (codeAny_mono (F.go X.A X.stack s H _ _ _ Q E hg hr I.env0 (hb s us I.kIn hn) rr h) ?_)
  intro r s' hq
  match r, hq with
  | .error e, hq => exact hx pins z H s e s' I hq
  | .ok (.ret u), hq => exact I.after hq
  | .ok .next, hq => exact False.elim hq
  | .ok .brk, hq => exact False.elim hq
  | .ok .cont, hq => exact False.elim hq
theorem pe_callG (F : FnG X.prog X.w X.K X.mg X.base CX k f fd ps sp) (hg : X.A.guards = some []) (hr : Room k X.A) (hm : X.mg x = some (.ref f)) (hk : PySem.W.keepIn X.K (.ref f) = true) (hb : Binds X.K fd ps ds) (hd : Vals dvs ds) (hx : Passes CX X E)
    (ha : PA X (e :: es) t) (g : Gl X x := by rfl) (h0 : (x == ("__debug__" : Str)) = false := by decide) (h1 : starEach (e :: es) X.env = (false, eval e X.env) :: starEach es X.env := by rfl) (h2 : (backTo pos (starEach es X.env)).any (·.1) = false := by rfl) :
    PE X (.Call (.Name x p) (e :: es) [] pos) (tCall sp dvs E t) :=
  ⟨fun pins s z H Q I h => wpAny_Call_Name_kw (ld_glob I g hm (PySem.W.callWith_K (h₀ := X.base) I.ok.mod.kin hk (thn (ha.run pos pins s z H _ I h) fun us s1 ⟨vs, H1, I1, r, q⟩ => ⟨I1.kIn, goG F hg hr hb hd hx I1 r q⟩) h1 h2) h0)⟩

/-! defs of data -/
/-- called with data that are so, it hands back the datum f of them, and changes nothing -/
def spD (n : Nat) (pre : List PyData → Prop) (f : List PyData → PyData) : Sp := fun vs H Q _ => ∃ (ds : List PyData) (N : Hp), Kp N H ∧ DatL N vs ds ∧ ds.length = n ∧ pre ds ∧ ∀ v H' M, Kp H H' → Nw N H M H' → Dat M v (f ds) → Q v H'
theorem spD_len {n : Nat} {pre : List PyData → Prop} {f : List PyData → PyData} (hn : ps.length = n) : ∀ vs H Q E, spD n pre f vs H Q E → vs.length = ps.length := fun vs H Q E ⟨ds, N, _, h, hl, _⟩ => by
  rw [h.len, hl, hn]
theorem de_call {n : Nat} {pre : List PyData → Prop} {g : List PyData → PyData} {as : List PyData} {d : PyData} (F : FnG X.prog X.w X.K X.mg X.base CX0 k f fd ps (spD n pre g)) (hg : X.A.guards = some []) (hr : Room k X.A) (hm : X.mg x = some (.ref f))
    (hk : PySem.W.keepIn X.K (.ref f) = true) (hb : Binds X.K fd ps []) (ha : DA X z H (e :: es) as) (hp : pre as) (hl : as.length = n) (gl : Gl X x := by rfl) (h0 : (x == ("__debug__" : Str)) = false := by decide)
    (h1 : starEach (e :: es) X.env = (false, eval e X.env) :: starEach es X.env := by rfl) (h2 : (backTo pos (starEach es X.env)).any (·.1) = false := by rfl) (hq : g as = d := by rfl) : DE X z H (.Call (.Name x p) (e :: es) [] pos) d := fun H1 q Q hQ =>
  .on (pe_callG F hg hr hm hk hb .nil (pass0) eA gl h0 h1 h2) (ha H1 q _ fun vs H2 N p2 n' hv => by
    subst hq
    rw [List.append_nil]
    exact ⟨as, N, n'.hi, hv, hl, hp, fun v H' M p3 m hd => hQ v H' M (p2.tr p3) (n'.tr p2 m) hd⟩)
theorem WB.nox {D : Ends} {sts : List Stmt} (h : WB X.nox D z H sts) : WB X D z H sts := fun pins s I => (PSs.nox (X := X) (st := sts) (t := fun D z H => WB X.nox D z H sts) eB).run pins s z H D I h
/-- its body, for all data that are so -/
theorem fnD {P : Program} {w : World} {K : PySem.W.Frag} {mg : Str → Option Value} {base : Heap} {qual : Str} {st : Stmt} {N : List Str} {n : Nat} {pre : List PyData → Prop} {g : List PyData → PyData}
    (F : Fun K x qual st f fd) (S : FnScope N ps (defScope st)) (hn : ps.length = n)
    (hb : ∀ (cdv : Value) (A : Around) (outer : List Env) (s : Shared) (H M : Hp) (vs : List V) (ds : List PyData) (E : XK), A.guards = some [] → Room k (A.deeper (envOfC qual (defScope st) s.heap.objs.size f cdv)) →
      DatL M vs ds → ds.length = n → pre ds → DB (cxOf CX0 P w K mg base N qual (defScope st) f cdv A outer s H E).nox (start N vs) M (defBody st) (g ds)) : FnG P w K mg base CX0 (k + 1) f fd ps (spD n pre g) := by
  refine fnG F S (spD_len hn) fun cdv A outer s H vs Q E hg hr ⟨ds, M, p, hd, hl, hp, q⟩ => WB.nox ?_
  exact hb cdv A outer s H M vs ds E hg hr hd hl hp H p _ q
end
end Fr

set_option Elab.async false
set_option linter.all false
set_option maxRecDepth 100000
set_option maxHeartbeats 2000000
set_option autoImplicit false
namespace Fr
open PySem PySem.Spec PyProof.Rows L2
/-! how much there is of a datum -/
mutual
def wt : PyData → Nat
  | .none => 6
  | .bool _ => 6
  | .int i => if i.natAbs.log2 < 1900 then i.natAbs.log2 + 4 else 10000000
  | .str x => 12 * x.length + 4
  | .list xs => wtL xs + 4
  | .tuple xs => wtL xs + 4
  | .dict kvs => wtK kvs + 4
def wtL : List PyData → Nat
  | [] => 0
  | x :: xs => wt x + wtL xs + 4
def wtK : List (PyData × PyData) → Nat
  | [] => 0
  | (a, b) :: r => wt a + wt b + wtK r + 8
end
theorem wt_mem : ∀ {xs : List PyData} {x : PyData}, x ∈ xs → wt x + 4 ≤ wtL xs
  | y :: ys, x, h => by
    rw [wtL]
    rcases List.mem_cons.mp h with e | h
    · subst e; omega
    · have := wt_mem h; omega
theorem wtL_len : ∀ xs : List PyData, 4 * xs.length ≤ wtL xs
  | [] => Nat.zero_le _
  | x :: xs => by
    have := wtL_len xs
    rw [wtL, List.length_cons]
    omega
theorem wt_tup {xs : List PyData} : wt (.tuple xs) = wtL xs + 4 := by rw [wt]
theorem wt_lst {xs : List PyData} : wt (.list xs) = wtL xs + 4 := by rw [wt]
theorem wt_str {x : Str} : wt (.str x) = 12 * x.length + 4 := by rw [wt]
theorem wtL_app : ∀ xs ys : List PyData, wtL (xs ++ ys) = wtL xs + wtL ys
  | [], ys => by rw [List.nil_append, wtL, Nat.zero_add]
  | x :: xs, ys => by rw [List.cons_append, wtL, wtL_app xs ys, wtL]; omega
theorem wtL_take : ∀ (xs : List PyData) (n : Nat), wtL (xs.take n) ≤ wtL xs
  | xs, 0 => by rw [List.take_zero, wtL]; omega
  | [], _ + 1 => by rw [List.take_nil]; omega
  | x :: xs, n + 1 => by
    have := wtL_take xs n
    rw [List.take_succ_cons, wtL, wtL]
    omega
theorem wtL_drop : ∀ (xs : List PyData) (n : Nat), wtL (xs.drop n) ≤ wtL xs
  | xs, 0 => by rw [List.drop_zero]; omega
  | [], _ + 1 => by rw [List.drop_nil]; omega
  | x :: xs, n + 1 => by
    have := wtL_drop xs n
    rw [List.drop_succ_cons, wtL]
    omega
theorem wtL_cut (xs : List PyData) (k l : Option Int) : wtL (cutD xs k l) ≤ wtL xs := by
  unfold cutD
  exact Nat.le_trans (wtL_take _ _) (wtL_drop _ _)
theorem hasLen_of {d : PyData} (h : wt d ≤ 1000000) (k : isTup d = true ∨ isLst d = true ∨ isStr d = true) : hasLen d = true := by
  cases d with
  | tuple _ => rfl
  | list _ => rfl
  | str x =>
    rw [wt] at h
    exact decide_eq_true (show x.length ≤ 1000000 by omega)
  | _ => rcases k with k | k | k <;> cases k

section
variable {X : Cx} {z : L2.St} {H H' N : Hp} {e a b c : Expr} {es : List Expr} {pos p p1 p2 : Pos} {d da db dc : PyData} {ds : List PyData} {v : V} {i : Nat} {x : Str}
/-! all -/
theorem de_all {bs : List Bool} (he : DE X z H e (.list (bs.map PyData.bool))) (hc : X.calm = true) (h1 : X.mg "all" = none) (g1 : Gl X "all" := by rfl) (hb : bootBuiltins "all" = some (.builtin "all") := by decide +kernel)
    (s1 : starEach [e] X.env = (false, eval e X.env) :: starEach [] X.env := by rfl) (s3 : (backTo pos (starEach [] X.env)).any (·.1) = false := by rfl) :
    DE X z H (.Call (.Name "all" p) [e] [] pos) (.bool (bs.all id)) := fun H1 q Q hQ =>
  .on (pe_callB (cr_all hc) g1 h1 hb (pa_cons eE pa_nil s1) (he := s1) (hpl := s3))
    (he H1 q _ fun v H2 N q2 n hv => by
      obtain ⟨l, xs, rfl, h1, h2⟩ := hv.lst_inv
      rw [h2.bools] at h1
      exact ⟨l, bs, rfl, SqL.of (n.hi _ _ h1), hQ _ _ N q2 n (.bl _)⟩)
theorem de_any {bs : List Bool} (he : DE X z H e (.list (bs.map PyData.bool))) (hc : X.calm = true) (h1 : X.mg "any" = none) (g1 : Gl X "any" := by rfl) (hb : bootBuiltins "any" = some (.builtin "any") := by decide +kernel)
    (s1 : starEach [e] X.env = (false, eval e X.env) :: starEach [] X.env := by rfl) (s3 : (backTo pos (starEach [] X.env)).any (·.1) = false := by rfl) :
    DE X z H (.Call (.Name "any" p) [e] [] pos) (.bool (bs.any id)) := fun H1 q Q hQ =>
  .on (pe_callB (cr_any hc) g1 h1 hb (pa_cons eE pa_nil s1) (he := s1) (hpl := s3))
    (he H1 q _ fun v H2 N q2 n hv => by
      obtain ⟨l, xs, rfl, h1, h2⟩ := hv.lst_inv
      rw [h2.bools] at h1
      exact ⟨l, bs, rfl, SqL.of (n.hi _ _ h1), hQ _ _ N q2 n (.bl _)⟩)
theorem map_bool (q : PyData → Bool) : ∀ ds : List PyData, ds.map (fun d => PyData.bool (q d)) = (ds.map q).map PyData.bool
  | [] => rfl
  | d :: ds => by rw [List.map_cons, map_bool q ds]; rfl
theorem all_map (q : PyData → Bool) : ∀ ds : List PyData, (ds.map q).all id = ds.all q
  | [] => rfl
  | d :: ds => by rw [List.map_cons, List.all_cons, List.all_cons, all_map q ds]; rfl
theorem any_map (q : PyData → Bool) : ∀ ds : List PyData, (ds.map q).any id = ds.any q
  | [] => rfl
  | d :: ds => by rw [List.map_cons, List.any_cons, List.any_cons, any_map q ds]; rfl
theorem de_allM {q : PyData → Bool} (he : DE X z H e (.list (ds.map fun d => .bool (q d)))) (hc : X.calm = true) (h1 : X.mg "all" = none) (g1 : Gl X "all" := by rfl) (hb : bootBuiltins "all" = some (.builtin "all") := by decide +kernel)
    (s1 : starEach [e] X.env = (false, eval e X.env) :: starEach [] X.env := by rfl) (s3 : (backTo pos (starEach [] X.env)).any (·.1) = false := by rfl) :
    DE X z H (.Call (.Name "all" p) [e] [] pos) (.bool (ds.all q)) := by
  rw [map_bool] at he
  rw [← all_map]
  exact de_all he hc h1 g1 hb s1 s3
theorem cut_tail (ds : List PyData) : cutD ds (some 1) none = ds.drop 1 := by
  have e1 : HT.sIx ds.length 0 (some 1) = min 1 ds.length := HT.sIx_nat ds.length 0 1
  unfold cutD
  rw [e1, HT.sIx_none]
  cases ds with
  | nil => rfl
  | cons x r =>
    rw [show min 1 (x :: r).length = 1 by rw [List.length_cons]; omega]
    show List.take ((x :: r).length - 1) r = r
    rw [List.length_cons, Nat.add_sub_cancel]
    exact List.take_length
end

/-! the mirrors -/
def dInt (d : PyData) : Bool := isIn d && !isBl d
def letter (c : Nat) : Bool := decide (97 ≤ c) && decide (c ≤ 122)
def nameS (x : Str) : Bool := (decide ((1 : Int) ≤ x.length) && decide ((x.length : Int) ≤ 8)) && x.cps.toList.all letter
def dName : PyData → Bool
  | .str x => nameS x
  | _ => false
def dRow (d : PyData) (n : Int) : Bool := isTup d && decide ((lenD d : Int) = n)
def asc (ds : List PyData) : Bool := (ds.zip (ds.drop 1)).all fun q => PySem.W.dataLt q.1 q.2
/-- can be put in order -/
def Ord (ds : List PyData) : Prop := ∀ x ∈ ds, ∀ y ∈ ds, PySem.W.alike x y = true ∧ x ≠ .none ∧ min x.depth y.depth ≤ 60
theorem le_sign (c d : Nat) : (!decide (([d] : List Nat) < [c])) = decide (c ≤ d) := by
  by_cases h : c ≤ d
  · rw [decide_eq_true h]
    have : ¬ ([d] : List Nat) < [c] := fun q => by
      rcases List.cons_lt_cons_iff.mp q with h1 | ⟨_, h2⟩
      · omega
      · exact absurd h2 (by decide)
    rw [decide_eq_false this]
    rfl
  · rw [decide_eq_false h]
    have : ([d] : List Nat) < [c] := List.cons_lt_cons_iff.mpr (.inl (by omega))
    rw [decide_eq_true this]
    rfl
theorem nt {b : Bool} (h : (!b) = true) : b = false := by
  cases b with
  | false => rfl
  | true => cases h
theorem nf {b : Bool} (h : (!b) = false) : b = true := by
  cases b with
  | true => rfl
  | false => cases h
theorem one_of {ds : List PyData} (h : ds.length = 1) : ∃ d, ds = [d] := by
  match ds, h with
  | [d], _ => exact ⟨d, rfl⟩
theorem two_of {ds : List PyData} (h : ds.length = 2) : ∃ d e, ds = [d, e] := by
  match ds, h with
  | [d, e], _ => exact ⟨d, e, rfl⟩
/-- a def of the text that stands under its own name -/
structure Df (K : PySem.W.Frag) (mg : Str → Option Value) (x : Str) (st : Stmt) (ps : List Str) (f : Addr) (fd : FuncData) : Prop where
  F : Fun K x x st f fd
  g : mg x = some (.ref f)
  b : Binds K fd ps []
structure Blt (mg : Str → Option Value) : Prop where
  isi : mg "isinstance" = none
  int : mg "int" = none
  bool : mg "bool" = none
  str : mg "str" = none
  tuple : mg "tuple" = none
  len : mg "len" = none
  all : mg "all" = none
  zip : mg "zip" = none
  list : mg "list" = none
  dict : mg "dict" = none
  range : mg "range" = none
  sorted : mg "sorted" = none
  repr : mg "repr" = none
  max : mg "max" = none
  min : mg "min" = none
  abs : mg "abs" = none
  enum : mg "enumerate" = none
def intOf : PyData → Int | .int n => n | _ => 0
def qs : PyData → Bool
  | .str y => (!decide (y.cps.toList < ("a" : Str).cps.toList)) && (!decide (("z" : Str).cps.toList < y.cps.toList))
  | _ => false
theorem qs_all (x : Str) : (signs x).all qs = x.cps.toList.all letter := by
  unfold signs
  rw [List.all_map]
  congr 1
  funext c
  have e1 : ("a" : Str).cps.toList = [97] := by decide +kernel
  have e2 : ("z" : Str).cps.toList = [122] := by decide +kernel
  show ((!decide ((⟨#[c]⟩ : Str).cps.toList < ("a" : Str).cps.toList)) && (!decide (("z" : Str).cps.toList < (⟨#[c]⟩ : Str).cps.toList))) = letter c
  rw [e1, e2]
  show ((!decide (([c] : List Nat) < [97])) && (!decide (([122] : List Nat) < [c]))) = letter c
  rw [le_sign, le_sign]
  rfl
theorem mem_signs {x : Str} {d : PyData} (h : d ∈ signs x) : ∃ c, d = .str ⟨#[c]⟩ := by
  unfold signs at h
  obtain ⟨c, _, e⟩ := List.mem_map.mp h
  exact ⟨c, e.symm⟩
theorem signs_len (x : Str) : (signs x).length = x.length := by
  unfold signs
  rw [List.length_map]
  exact Array.length_toList
def lt2 : PyData → Bool
  | .tuple [x, y] => PySem.W.dataLt x y
  | _ => false
theorem lt2_all (xs : List PyData) : (zipD xs (xs.drop 1)).all lt2 = asc xs := by
  unfold zipD asc
  rw [List.all_map]
  rfl
def seqOf : PyData → List PyData
  | .list xs => xs
  | .tuple xs => xs
  | _ => []
theorem mem_zip {xs ys : List PyData} {d : PyData} (h : d ∈ zipD xs ys) : ∃ x y, d = .tuple [x, y] ∧ x ∈ xs ∧ y ∈ ys := by
  unfold zipD at h
  obtain ⟨⟨x, y⟩, h1, h2⟩ := List.mem_map.mp h
  exact ⟨x, y, h2.symm, (List.of_mem_zip h1).1, (List.of_mem_zip h1).2⟩
theorem Dat.two {N : Hp} {v : V} {x y : PyData} (h : Dat N v (.tuple [x, y])) : ∃ a u1 u2, v = .ref a ∧ N a = some (.tup [u1, u2]) ∧ Dat N u1 x ∧ Dat N u2 y := by
  obtain ⟨a, xs, e, h1, h2⟩ := h.tup_inv
  cases h2 with
  | cons a1 h3 =>
    cases h3 with
    | cons a2 h4 =>
      cases h4
      exact ⟨a, _, _, e, h1, a1, a2⟩
theorem row_inv {d : PyData} {n : Nat} (h : dRow d n = true) : ∃ ds, d = .tuple ds ∧ ds.length = n := by
  unfold dRow at h
  rw [Bool.and_eq_true] at h
  cases d with
  | tuple ds =>
    have h2 : ((ds.length : Nat) : Int) = (n : Int) := of_decide_eq_true h.2
    exact ⟨ds, rfl, by omega⟩
  | _ => exact absurd h.1 (by simp [isTup])
theorem three_of {ds : List PyData} (h : ds.length = 3) : ∃ a b c, ds = [a, b, c] := by
  match ds, h with
  | [a, b, c], _ => exact ⟨a, b, c, rfl⟩
theorem int_inv {d : PyData} (h : dInt d = true) : ∃ n, d = .int n := by
  cases d with
  | int n => exact ⟨n, rfl⟩
  | _ => exact absurd h (by simp [dInt, isIn, isBl])
/-- one of some words -/
def oneOf (ws : List Str) (d : PyData) : Bool := ws.any fun w => isS w d
def dItem : PyData → Bool
  | .tuple [a, b, .int n] => oneOf ["kind", "step"] a && (dName b && !decide (n = 0))
  | _ => false
def head2 : PyData → PyData
  | .tuple [a, b, _] => .tuple [a, b]
  | _ => .none
def dQue : PyData → Bool
  | .tuple ds => ds.all dItem && asc (ds.map head2)
  | _ => false
theorem letters : ∀ c : Nat, decide (c ∈ ("abcdefghijklmnopqrstuvwxyz" : Str).cps.toList) = letter c := fun c => by
  have e : ("abcdefghijklmnopqrstuvwxyz" : Str).cps.toList = List.range' 97 26 := by decide +kernel
  rw [e]
  unfold letter
  by_cases h : 97 ≤ c ∧ c ≤ 122
  · rw [decide_eq_true (List.mem_range'_1.mpr (by omega)), decide_eq_true h.1, decide_eq_true h.2]
    rfl
  · rw [decide_eq_false (fun q => h (by have := List.mem_range'_1.mp q; omega))]
    by_cases h1 : 97 ≤ c
    · rw [decide_eq_true h1, decide_eq_false (fun q => h ⟨h1, q⟩)]
      rfl
    · rw [decide_eq_false h1]
      rfl
def sgs : PyData → Bool
  | .str ⟨⟨[c]⟩⟩ => decide (c ∈ ("abcdefghijklmnopqrstuvwxyz" : Str).cps.toList)
  | _ => false
theorem sgs_all (x : Str) : (signs x).all sgs = x.cps.toList.all letter := by
  unfold signs
  rw [List.all_map]
  congr 1
  funext c
  exact letters c
theorem rd_in_sign {c : Nat} {w : Str} : RD (fun x y H Q => ∃ (c : Nat) (z : Str), x = .str ⟨#[c]⟩ ∧ y = .str z ∧ Q (.bl (decide (c ∈ z.cps.toList))) H) (.str ⟨#[c]⟩) (.str w) (.bool (decide (c ∈ w.cps.toList))) := fun x y K N Q p hx hy q => by
  rw [hx.str_inv, hy.str_inv]
  exact ⟨c, w, rfl, rfl, q _ _ N .rfl (.rfl p) (.bl _)⟩
def ltH : PyData → Bool
  | .tuple [x, y] => PySem.W.dataLt (head2 x) (head2 y)
  | _ => false
theorem zip_head : ∀ (xs ys : List PyData), (zipD xs ys).all ltH = ((xs.map head2).zip (ys.map head2)).all fun q => PySem.W.dataLt q.1 q.2
  | [], _ => rfl
  | _ :: _, [] => rfl
  | x :: xs, y :: ys => by
    have e := zip_head xs ys
    unfold zipD at e ⊢
    rw [List.zip_cons_cons, List.map_cons, List.all_cons, e, List.map_cons, List.map_cons, List.zip_cons_cons, List.all_cons]
    rfl
theorem ltH_all (xs : List PyData) : (zipD xs (xs.drop 1)).all ltH = asc (xs.map head2) := by
  rw [zip_head]
  unfold asc
  rw [List.map_drop]
theorem items_of {xs : List PyData} (q : xs.all dItem = true) : ∀ d ∈ xs, ∃ u y n, d = .tuple [.str u, .str y, .int n] := fun d hd => by
  have h3 := List.all_eq_true.mp q d hd
  unfold dItem at h3
  split at h3
  · rename_i a b n
    rw [Bool.and_eq_true, Bool.and_eq_true] at h3
    obtain ⟨h4, h5, _⟩ := h3
    cases a with
    | str u =>
      cases b with
      | str y => exact ⟨u, y, n, rfl⟩
      | _ => cases h5
    | _ => cases h4
  · cases h3
end Fr

set_option Elab.async false
set_option linter.all false
set_option maxRecDepth 100000
set_option maxHeartbeats 2000000
set_option autoImplicit false
namespace Fr
open PySem PySem.Spec PyProof.Rows L2

/-! draws: a list of three ints at j is changed, all else stays -/
def KpJ (j : Addr) (H K : Hp) : Prop := ∀ a o, a ≠ j → H a = some o → K a = some o
theorem KpJ.rfl {j : Addr} {H : Hp} : KpJ j H H := fun _ _ _ h => h
theorem KpJ.tr {j : Addr} {H K L : Hp} (p : KpJ j H K) (q : KpJ j K L) : KpJ j H L := fun a o n h => q a o n (p a o n h)
theorem Kp.toJ {H K : Hp} {j : Addr} (p : Kp H K) : KpJ j H K := fun a o _ h => p a o h
theorem KpJ.base {j : Addr} {N H K : Hp} (p : KpJ j H K) (n : Kp N H) (h : N j = none) : Kp N K := fun a o e => p a o (fun q => by rw [q, h] at e; cases e) (n a o e)
def big : Int := 10 ^ 300
structure Jar (H : Hp) (j : Addr) (c : Nat) : Prop where
  ex : ∃ a b k : Int, H j = some (.lst [.int a, .int b, .int k]) ∧ 0 ≤ a ∧ a < big ∧ 0 ≤ b ∧ b < 2 ^ 61 ∧ 0 ≤ k ∧ k ≤ (c : Int)
theorem Jar.mono {H : Hp} {j : Addr} {c c' : Nat} (h : Jar H j c) (l : c ≤ c') : Jar H j c' := by
  obtain ⟨a, b, k, h1, h2, h3, h4, h5, h6, h7⟩ := h.ex
  exact ⟨a, b, k, h1, h2, h3, h4, h5, h6, by omega⟩
theorem Jar.kp {H K : Hp} {j : Addr} {c : Nat} (h : Jar H j c) (p : Kp H K) : Jar K j c := by
  obtain ⟨a, b, k, h1, h2⟩ := h.ex
  exact ⟨a, b, k, p _ _ h1, h2⟩
theorem Jar.some {H : Hp} {j : Addr} {c : Nat} (h : Jar H j c) : H j ≠ none := by
  obtain ⟨a, b, k, h1, _⟩ := h.ex
  rw [h1]
  exact fun q => nomatch q
def lim : Nat := 1000000
/-- how a heap goes on: N is the base ahead, M behind -/
structure Go (j : Addr) (N H M H' : Hp) (c' : Nat) : Prop where
  kj : KpJ j H H'
  lo : Kp N M
  hi : Kp M H'
  off : ∀ a, N a = none → H a ≠ none → M a = none
  jar : Jar H' j c'
theorem Go.mj {j : Addr} {N H M H' : Hp} {c c' : Nat} (g : Go j N H M H' c') (h : N j = none) (q : Jar H j c) : M j = none := g.off j h q.some
theorem Go.tr {j : Addr} {N H M H' M' H'' : Hp} {c' c'' : Nat} (g : Go j N H M H' c') (g' : Go j M H' M' H'' c'') : Go j N H M' H'' c'' :=
  ⟨g.kj.tr g'.kj, g.lo.tr g'.lo, g'.hi, fun a h h1 => g'.off a (g.off a h h1) (fun e => by
    by_cases q : a = j
    · subst q
      exact g.jar.some e
    · cases h2 : H a with
      | none => exact h1 h2
      | some o => rw [g.kj a o q h2] at e; cases e), g'.jar⟩
theorem Go.of {j : Addr} {N H M H' : Hp} {c : Nat} (k : Kp H H') (n : Nw N H M H') (q : Jar H j c) : Go j N H M H' c := ⟨k.toJ, n.lo, n.hi, n.off, q.kp k⟩
theorem Go.rfl {j : Addr} {N H : Hp} {c : Nat} (k : Kp N H) (q : Jar H j c) : Go j N H N H c := .of .rfl (.rfl k) q
theorem Go.mono {j : Addr} {N H M H' : Hp} {c c' : Nat} (g : Go j N H M H' c) (h : c ≤ c') : Go j N H M H' c' := ⟨g.kj, g.lo, g.hi, g.off, g.jar.mono h⟩

def JE (X : Cx) (z : L2.St) (N : Hp) (j : Addr) (c : Nat) (e : Expr) (k : Nat) (P : PyData → Prop) : Prop := ∀ H, Kp N H → N j = none → Jar H j c → ∀ Q : VK, (∀ v H' M d, Go j N H M H' (c + k) → Dat M v d → P d → Q v H') → WE X z H e Q
def JT (X : Cx) (z : L2.St) (N : Hp) (j : Addr) (c : Nat) (e : Expr) (k : Nat) (P : Bool → Prop) : Prop := ∀ H, Kp N H → N j = none → Jar H j c → ∀ Q : Bool → Hp → Prop, (∀ b H' M, Go j N H M H' (c + k) → P b → Q b H') → WT X z H e Q
def JW (X : Cx) (z : L2.St) (N : Hp) (j : Addr) (c : Nat) (e : Expr) (k : Nat) (P : Bool → Prop) : Prop := ∀ H, Kp N H → N j = none → Jar H j c → ∀ Q : Bool → Hp → Prop, (∀ b H' M, Go j N H M H' (c + k) → P b → Q b H') → WW X z H e Q
def JA (X : Cx) (z : L2.St) (N : Hp) (j : Addr) (c : Nat) (es : List Expr) (k : Nat) (P : List PyData → Prop) : Prop := ∀ H, Kp N H → N j = none → Jar H j c → ∀ Q : List V → Hp → Prop, (∀ v H' M d, Go j N H M H' (c + k) → DatL M v d → P d → Q v H') → WA X z H es Q
section
variable {X : Cx} {z : L2.St} {N N' H H' : Hp} {j : Addr} {c k l m : Nat} {e a b t : Expr} {es : List Expr} {pos p p1 p2 : Pos} {d da db : PyData} {ds : List PyData} {v : V} {i : Nat} {x : Str} {P P' : PyData → Prop} {R R' : List PyData → Prop}
theorem je_de (h : DE X z N e d) (hp : P d) : JE X z N j c e k P := fun H p _ q Q hQ => h H p Q fun v H2 M p2 n hv => hQ v H2 M d ((Go.of p2 n q).mono (by omega)) hv hp
theorem ja_da (h : DA X z N es ds) (hp : R ds) : JA X z N j c es k R := fun H p _ q Q hQ => h H p Q fun v H2 M p2 n hv => hQ v H2 M ds ((Go.of p2 n q).mono (by omega)) hv hp
theorem jt_dt {P : Bool → Prop} {f : Bool} (h : DT X z N e f) (hp : P f) : JT X z N j c e k P := fun H p _ q Q hQ => h H p Q fun H2 p2 => hQ f H2 N ⟨p2.toJ, .rfl, p.tr p2, fun _ h _ => h, (q.kp p2).mono (by omega)⟩ hp
theorem JE.imp (h : JE X z N j c e k P) (i : ∀ d, P d → P' d) (l : k ≤ m) : JE X z N j c e m P' := fun H p h0 q Q hQ => h H p h0 q Q fun v H' M d g hv hp => hQ v H' M d (g.mono (by omega)) hv (i d hp)
theorem JA.imp (h : JA X z N j c es k R) (i : ∀ d, R d → R' d) (l : k ≤ m) : JA X z N j c es m R' := fun H p h0 q Q hQ => h H p h0 q Q fun v H' M d g hv hp => hQ v H' M d (g.mono (by omega)) hv (i d hp)
theorem ja_nil (h : R []) : JA X z N j c [] k R := ja_da da_nil h
theorem ja_cons {P2 : PyData → List PyData → Prop} (h : JE X z N j c e k P) (hr : ∀ d M, Kp N M → M j = none → P d → JA X z M j (c + k) es l (P2 d)) (hp : ∀ d ds, P d → P2 d ds → R (d :: ds))
    (hs : starEach (e :: es) X.env = (false, eval e X.env) :: starEach es X.env := by rfl) : JA X z N j c (e :: es) (k + l) R := fun H p h0 q Q hQ =>
  wa_cons (h H p h0 q _ fun x H1 M d g hv hp1 => hr d M g.lo (g.mj h0 q) hp1 H1 g.hi (g.mj h0 q) g.jar _ fun xs H2 M2 ds g2 hvs hp2 =>
    hQ (x :: xs) H2 M2 (d :: ds) ((g.tr g2).mono (by omega)) (.cons (hv.kp g2.lo) hvs) (hp d ds hp1 hp2)) hs
theorem Go.laid {M : Hp} {a : Addr} {o : HO} (g : Go j N H M H' c) (h : H' a = none) (h0 : N j = none) : Go j N H (upd M a o) (upd H' a o) c := by
  have n : Nw M H' (upd M a o) (upd H' a o) := .laid g.hi h
  exact g.tr (.of (.new h) n g.jar)
theorem je_lst (h : JA X z N j c es k R) (hl : ∀ ds, R ds → ds.length ≤ 1000000) : JE X z N j c (.List es pos) k (fun d => ∃ ds, d = .list ds ∧ R ds) := fun H p h0 q Q hQ =>
  .on (pe_lst eA) (h H p h0 q _ fun vs H1 M ds g hv hp => ⟨big_of (hv.len ▸ hl ds hp), fun a ha => hQ _ _ _ (.list ds) (g.laid ha h0) (.lst upd_same (hv.kp (.new (g.hi.none ha)))) ⟨ds, rfl, hp⟩⟩)
theorem je_tup {kk : Nat} (h : JA X z N j c es k R) (hl : ∀ ds, R ds → ds.length ≤ 1000000) : JE X z N j c (.Tuple es kk pos) k (fun d => ∃ ds, d = .tuple ds ∧ R ds) := fun H p h0 q Q hQ =>
  .on (pe_tup eA) (h H p h0 q _ fun vs H1 M ds g hv hp => ⟨big_of (hv.len ▸ hl ds hp), fun a ha => hQ _ _ _ (.tuple ds) (g.laid ha h0) (.tup upd_same (hv.kp (.new (g.hi.none ha)))) ⟨ds, rfl, hp⟩⟩)
theorem je_bin {op : Operator} {r : R2} {P2 : PyData → PyData → Prop} (ho : OpR X (binaryOp op) r) (ha : JE X z N j c a k P) (hb : ∀ d M, Kp N M → M j = none → P d → JE X z M j (c + k) b l (P2 d)) (hr : ∀ d d', P d → P2 d d' → ∃ d2, RD r d d' d2 ∧ P' d2) :
    JE X z N j c (.BinOp a op b pos) (k + l) P' := fun H p h0 q Q hQ =>
  .on (pe_op ho eE eE) (ha H p h0 q _ fun x H1 M d g hx hp1 => hb d M g.lo (g.mj h0 q) hp1 H1 g.hi (g.mj h0 q) g.jar _ fun y H2 M2 d' g2 hy hp2 => by
    obtain ⟨d2, r1, r2⟩ := hr d d' hp1 hp2
    exact r1 x y H2 M2 Q g2.hi (hx.kp g2.lo) hy fun v K M3 k3 n3 hv => hQ v K M3 d2 (((g.tr g2).tr (.of k3 n3 g2.jar)).mono (by omega)) hv r2)
theorem jt_cmp {op : CmpOp} {r : R2} {P2 : PyData → PyData → Prop} {P' : Bool → Prop} (ho : OpR X (compareOp op) r) (ha : JE X z N j c a k P) (hb : ∀ d M, Kp N M → M j = none → P d → JE X z M j (c + k) b l (P2 d)) (hr : ∀ d d', P d → P2 d d' → ∃ f, RD r d d' (.bool f) ∧ P' f)
    (hm : behindInMarks op b = false := by first | rfl | exact nobehind _ (by decide) (by decide)) : JT X z N j c (.Compare a [op] [b] pos) (k + l) P' := fun H p h0 q Q hQ =>
  .on (pt_cmpR ho eE eE hm) (ha H p h0 q _ fun x H1 M d g hx hp1 => hb d M g.lo (g.mj h0 q) hp1 H1 g.hi (g.mj h0 q) g.jar _ fun y H2 M2 d' g2 hy hp2 => by
    obtain ⟨f, r1, r2⟩ := hr d d' hp1 hp2
    exact r1 x y H2 M2 _ g2.hi (hx.kp g2.lo) hy fun v K M3 k3 n3 hv => ⟨f, hv.bool_inv, hQ f K M3 (((g.tr g2).tr (.of k3 n3 g2.jar)).mono (by omega)) r2⟩)
theorem jt_of {P : Bool → Prop} (h : JW X z N j c e k P) : JT X z N j c e k P := fun H p h0 q Q hQ => .on (PW.pt eW) (h H p h0 q Q hQ)
theorem jw_and1 {P : Bool → Prop} (h : JT X z N j c a k P) : JW X z N j c (.BoolOp .And [a] pos) k P := fun H p h0 q Q hQ => .on (pw_and1 eT) (h H p h0 q Q hQ)
theorem jw_and {rest : List Expr} {P P2 P3 : Bool → Prop} (h : JT X z N j c a k P) (h2 : P true → ∀ M, Kp N M → M j = none → JW X z M j (c + k) (.BoolOp .And (b :: rest) pos) l P2) (h3 : ∀ f, P2 f → P3 f) (h4 : P false → P3 false) :
    JW X z N j c (.BoolOp .And (a :: b :: rest) pos) (k + l) P3 := fun H p h0 q Q hQ =>
  .on (pw_and eT eW) (h H p h0 q _ fun f H1 M g hp => by
    cases f with
    | false =>
      rw [if_neg Bool.false_ne_true]
      exact hQ false H1 M (g.mono (by omega)) (h4 hp)
    | true =>
      rw [if_pos rfl]
      exact h2 hp M g.lo (g.mj h0 q) H1 g.hi (g.mj h0 q) g.jar Q fun f H2 M2 g2 hp2 => hQ f H2 M2 ((g.tr g2).mono (by omega)) (h3 f hp2))
theorem je_if {Pb : Bool → Prop} (hc : JT X z N j c t k Pb) (ha : Pb true → ∀ M, Kp N M → M j = none → JE X z M j (c + k) a l P) (hb : Pb false → ∀ M, Kp N M → M j = none → JE X z M j (c + k) b l P) : JE X z N j c (.IfExp t a b pos) (k + l) P := fun H p h0 q Q hQ =>
  .on (pe_ifExp eT eE eE) (hc H p h0 q _ fun f H1 M g hp => by
    cases f with
    | true =>
      rw [if_pos rfl]
      exact ha hp M g.lo (g.mj h0 q) H1 g.hi (g.mj h0 q) g.jar Q fun v H2 M2 d g2 hv hd => hQ v H2 M2 d ((g.tr g2).mono (by omega)) hv hd
    | false =>
      rw [if_neg Bool.false_ne_true]
      exact hb hp M g.lo (g.mj h0 q) H1 g.hi (g.mj h0 q) g.jar Q fun v H2 M2 d g2 hv hd => hQ v H2 M2 d ((g.tr g2).mono (by omega)) hv hd)

/-! a def that draws -/
def spJ (n : Nat) (pre : List PyData → Prop) (k : Nat) (post : List PyData → PyData → Prop) : Sp := fun vs H Q _ => ∃ (j : Addr) (ws : List V) (ds : List PyData) (N : Hp) (c : Nat), vs = .ref j :: ws ∧ Kp N H ∧ N j = none ∧ Jar H j c ∧ c + k ≤ lim ∧ DatL N ws ds ∧ ds.length = n ∧ pre ds ∧
  ∀ v H' M d, Go j N H M H' (c + k) → Dat M v d → post ds d → Q v H'
theorem spJ_len {n : Nat} {pre : List PyData → Prop} {k : Nat} {post : List PyData → PyData → Prop} {ps : List Str} (hn : ps.length = n + 1) : ∀ vs H Q E, spJ n pre k post vs H Q E → vs.length = ps.length := fun vs H Q E ⟨j, ws, ds, N, c, e, _, _, _, _, h, hl, _⟩ => by
  rw [e, List.length_cons, h.len, hl, hn]
theorem je_call {n : Nat} {pre : List PyData → Prop} {post : List PyData → PyData → Prop} {f : Addr} {fd : FuncData} {ps : List Str} {q : Nat} {fn jn : Str} {pj : Pos} (F : FnG X.prog X.w X.K X.mg X.base CX0 q f fd ps (spJ n pre k post)) (hg : X.A.guards = some []) (hr : Room q X.A) (hm : X.mg fn = some (.ref f))
    (hk : PySem.W.keepIn X.K (.ref f) = true) (hb : Binds X.K fd ps []) (i : Nat) (hz : z[i]? = some (some (.ref j))) (ha : JA X z N j c es l R) (hp : ∀ ds, R ds → pre ds ∧ ds.length = n) (hP : ∀ ds d, R ds → post ds d → P d) (hc : c + (l + k) ≤ lim)
    (hN : X.N[i]? = some jn := by rfl) (hv : Vis X.env.scope jn := by first | exact Or.inl rfl | exact Or.inr (Or.inl rfl) | exact Or.inr (Or.inr rfl)) (d1 : (jn == ("__debug__" : Str)) = false := by decide) (d2 : (jn == ("__classdict__" : Str)) = false := by decide)
    (gl : Gl X fn := by rfl) (h0 : (fn == ("__debug__" : Str)) = false := by decide)
    (h1 : starEach (.Name jn pj :: es) X.env = (false, eval (.Name jn pj) X.env) :: starEach es X.env := by rfl) (h2 : (backTo pos (starEach es X.env)).any (·.1) = false := by rfl) :
    JE X z N j c (.Call (.Name fn p) (.Name jn pj :: es) [] pos) (l + k) P := fun H kp h0' jar Q hQ =>
  .on (pe_callG F hg hr hm hk hb .nil pass0 (pa_cons (pe_var hN hv d1 d2) eA h1) gl h0 h1 h2) ⟨_, hz, ha H kp h0' jar _ fun vs H1 M ds g hvs hR => by
    show spJ n pre k post ((V.ref j :: vs) ++ []) H1 Q E0
    rw [List.append_nil]
    obtain ⟨hp1, hl⟩ := hp ds hR
    exact ⟨j, vs, ds, M, c + l, rfl, g.hi, g.mj h0' jar, g.jar, by omega, hvs, hl, hp1, fun v H' M' d g' hv hd => hQ v H' M' d ((g.tr g').mono (by omega)) hv (hP ds d hR hd)⟩⟩
theorem je_ix {r : R2} {P2 : PyData → PyData → Prop} (ho : IxR X r) (ha : JE X z N j c a k P) (hb : ∀ d M, Kp N M → M j = none → P d → JE X z M j (c + k) b l (P2 d)) (hr : ∀ d d', P d → P2 d d' → ∃ d2, RD r d d' d2 ∧ P' d2) (hs : PlainIx b := by exact fun _ _ => rfl) :
    JE X z N j c (.Subscript a b pos) (k + l) P' := fun H p h0 q Q hQ =>
  .on (pe_ix ho eE eE hs) (ha H p h0 q _ fun x H1 M d g hx hp1 => hb d M g.lo (g.mj h0 q) hp1 H1 g.hi (g.mj h0 q) g.jar _ fun y H2 M2 d' g2 hy hp2 => by
    obtain ⟨d2, r1, r2⟩ := hr d d' hp1 hp2
    exact r1 x y H2 M2 Q g2.hi (hx.kp g2.lo) hy fun v K M3 k3 n3 hv => hQ v K M3 d2 (((g.tr g2).tr (.of k3 n3 g2.jar)).mono (by omega)) hv r2)
theorem SqL.kp {K : PySem.W.Frag} {a : Addr} {xs : List V} (h : SqL K H a xs) (p : Kp H H') : SqL K H' a xs := by
  rcases h with (h | ⟨o, h⟩) | h
  · exact .inl (.inl (p _ _ h))
  · exact .inl (.inr ⟨o, p _ _ h⟩)
  · exact .inr h
theorem rd_ixS {w : Str} {r : Int} {c : Nat} (hw : w.length ≤ 1000000) (e : L2.atI w.cps.toList r = some c) : RD rIxS (.str w) (.int r) (.str ⟨#[c]⟩) := fun x y K N Q p hx hy q => by
  rw [hx.str_inv, hy.int_inv]
  exact ⟨w, r, c, rfl, rfl, big_of hw, e, q _ _ N .rfl (.rfl p) (.str _)⟩
theorem atI_in {α : Type} {xs : List α} {r : Int} (h0 : 0 ≤ r) (h1 : r < xs.length) : ∃ x, L2.atI xs r = some x ∧ x ∈ xs := by
  have hl : r.toNat < xs.length := by omega
  refine ⟨xs[r.toNat], ?_, List.getElem_mem hl⟩
  have h2 := atI_nat (xs := xs) (j := r.toNat) (List.getElem?_eq_getElem hl)
  rw [show ((r.toNat : Nat) : Int) = r by omega] at h2
  exact h2
end
/-- what can be drawn of -/
def itemsD : PyData → List PyData
  | .list xs => xs
  | .tuple xs => xs
  | .str x => signs x
  | _ => []
theorem lenD_items (d : PyData) : (itemsD d).length = lenD d := by
  cases d with
  | str x => exact signs_len x
  | list _ => rfl
  | tuple _ => rfl
  | _ => rfl
def preOf (ds : List PyData) : Prop := ∃ d, ds = [d] ∧ hasLen d = true ∧ 1 ≤ (itemsD d).length ∧ (itemsD d).length ≤ 1000000
def postOf (ds : List PyData) (e : PyData) : Prop := ∃ d, ds = [d] ∧ e ∈ itemsD d
theorem op_powW {X : Cx} : OpR X (binaryOp .Pow) (rI (fun i j => 0 ≤ j ∧ (Builtin.Int.intBits i : Int) * j ≤ 2 ^ 27) fun i j => .int (i ^ j.toNat)) := opI fun _ _ _ _ _ _ _ hc q => pow_int hc.1 hc.2 q
def JB (X : Cx) (z : L2.St) (N : Hp) (j : Addr) (c : Nat) (sts : List Stmt) (k : Nat) (P : PyData → Prop) : Prop := ∀ H, Kp N H → N j = none → Jar H j c → ∀ D : Ends, (∀ v H' M d, Go j N H M H' (c + k) → Dat M v d → P d → D.rt v H') → WB X D z H sts
section
variable {X : Cx} {z : L2.St} {N N' H H' : Hp} {j : Addr} {c k l m : Nat} {e a b t : Expr} {es : List Expr} {sts : List Stmt} {pos p p1 p2 : Pos} {d da db : PyData} {ds : List PyData} {v : V} {i : Nat} {x y : Str} {P P' : PyData → Prop} {R R' : List PyData → Prop}
theorem jb_ret (h : JE X z N j c e k P) : JB X z N j c [.Return (some e) pos] k P := fun H p h0 q D hD => .on (pss_one (ps_ret eE)) (h H p h0 q _ hD)
theorem JB.imp (h : JB X z N j c sts k P) (i : ∀ d, P d → P' d) (l : k ≤ m) : JB X z N j c sts m P' := fun H p h0 q D hD => h H p h0 q D fun v H' M d g hv hp => hD v H' M d (g.mono (by omega)) hv (i d hp)
theorem jb_set (i : Nat) {rest : List Stmt} {pos' : Pos} {P2 : PyData → Prop} (hN : X.N.Nodup) (he : JE X z N j c e k P) (hb : ∀ v M d, Kp N M → M j = none → Dat M v d → P d → JB X (z.set i (some v)) M j (c + k) rest l P2)
    (hi : X.N[i]? = some x := by rfl) (hx : Loc X.env.scope x := by first | exact Or.inl rfl | exact Or.inr rfl) (hs : swapsWith e (some (.Name x pos')) pos.line X.env = pure false := by rfl)
    (hf : X.fn x = true ∨ X.env.scope.names.lookup x = some .local := by first | exact .inl rfl | exact .inr rfl) : JB X z N j c (.Assign [.Name x pos'] e pos :: rest) (k + l) P2 := fun H p h0 q D hD =>
  .on (pss_cons (ps_set hN hi hx eE hs hf) eB) (he H p h0 q _ fun v H1 M d g hv hp => hb v M d g.lo (g.mj h0 q) hv hp H1 g.hi (g.mj h0 q) g.jar D fun v' H2 M2 d2 g2 hv2 hp2 => hD v' H2 M2 d2 ((g.tr g2).mono (by omega)) hv2 hp2)
theorem jb_if {th f rest : List Stmt} {Pb : Bool → Prop} (hc : JT X z N j c t k Pb) (ht : Pb true → ∀ M, Kp N M → M j = none → JB X z M j (c + k) th l P) (hf : Pb false → ∀ M, Kp N M → M j = none → JB X z M j (c + k) (f ++ rest) l P) (hr : f = [] := by rfl) :
    JB X z N j c (.If t th f pos :: rest) (k + l) P := fun H p h0 q D hD => by
  subst hr
  refine .on (pss_cons (ps_if eT eB pss_nil) eB) (hc H p h0 q _ fun b H1 M g hp => ?_)
  cases b with
  | true =>
    rw [if_pos rfl]
    exact ht hp M g.lo (g.mj h0 q) H1 g.hi (g.mj h0 q) g.jar _ fun v H2 M2 d g2 hv hp2 => hD v H2 M2 d ((g.tr g2).mono (by omega)) hv hp2
  | false =>
    rw [if_neg Bool.false_ne_true]
    exact hf hp M g.lo (g.mj h0 q) H1 g.hi (g.mj h0 q) g.jar D fun v H2 M2 d g2 hv hp2 => hD v H2 M2 d ((g.tr g2).mono (by omega)) hv hp2
/-- a, b = e1, e2 -/
theorem jb_par (i i' : Nat) {rest : List Stmt} {px py pt pt2 : Pos} {kt k2 : Nat} {P2 : PyData → PyData → Prop} {P3 : PyData → Prop} (hc : X.calm = true) (hN : X.N.Nodup) (ha : JE X z N j c a k P) (hb : ∀ d M, Kp N M → M j = none → P d → JE X z M j (c + k) b l (P2 d))
    (hr : ∀ v w M d d', Kp N M → M j = none → Dat M v d → Dat M w d' → P d → P2 d d' → JB X ((z.set i (some v)).set i' (some w)) M j (c + (k + l)) rest m P3) (hij : i ≠ i')
    (hi : X.N[i]? = some x := by rfl) (hj : X.N[i']? = some y := by rfl) (lx : X.env.scope.names.lookup x = some .local ∨ X.env.scope.names.lookup x = some .cell := by first | exact Or.inl rfl | exact Or.inr rfl) (ly : X.env.scope.names.lookup y = some .local ∨ X.env.scope.names.lookup y = some .cell := by first | exact Or.inl rfl | exact Or.inr rfl)
    (s1 : starEach [a, b] X.env = (false, eval a X.env) :: starEach [b] X.env := by rfl) (s2 : starEach [b] X.env = (false, eval b X.env) :: starEach [] X.env := by rfl)
    (hp : ∀ (t : TA), PA X [a, b] t → PS X (.Assign [.Tuple [.Name x px, .Name y py] kt pt] (.Tuple [a, b] k2 pt2) pos) (tPar i i' t)) :
    JB X z N j c (.Assign [.Tuple [.Name x px, .Name y py] kt pt] (.Tuple [a, b] k2 pt2) pos :: rest) (k + l + m) P3 := fun H p h0 q D hD =>
  .on (pss_cons (hp _ (pa_cons eE (pa_cons eE pa_nil s2) s1)) eB) (ha H p h0 q _ fun v H1 M d g hv hp1 => hb d M g.lo (g.mj h0 q) hp1 H1 g.hi (g.mj h0 q) g.jar _ fun w H2 M2 d' g2 hw hp2 =>
    ⟨v, w, rfl, hr v w M2 d d' (g.lo.tr g2.lo) (g2.mj (g.mj h0 q) g.jar) (hv.kp g2.lo) hw hp1 hp2 H2 g2.hi (g2.mj (g.mj h0 q) g.jar) (g2.jar.mono (by omega)) D fun v' H3 M3 d3 g3 hv3 hp3 => hD v' H3 M3 d3 (((g.tr g2).tr g3).mono (by omega)) hv3 hp3⟩)
end
theorem fnJ {P : Program} {w : World} {K : PySem.W.Frag} {mg : Str → Option Value} {base : Heap} {x qual : Str} {st : Stmt} {names ps : List Str} {n k q : Nat} {pre : List PyData → Prop} {post : List PyData → PyData → Prop} {f : Addr} {fd : FuncData}
    (F : Fun K x qual st f fd) (S : FnScope names ps (defScope st)) (hn : ps.length = n + 1)
    (hb : ∀ (cdv : Value) (A : Around) (outer : List Env) (s : Shared) (H : Hp) (E : XK) (N : Hp) (j : Addr) (c : Nat) (ws : List V) (ds : List PyData), A.guards = some [] → Room q (A.deeper (envOfC qual (defScope st) s.heap.objs.size f cdv)) → c + k ≤ lim →
      DatL N ws ds → ds.length = n → pre ds → JB (cxOf CX0 P w K mg base names qual (defScope st) f cdv A outer s H E).nox (start names (.ref j :: ws)) N j c (defBody st) k (post ds)) : FnG P w K mg base CX0 (q + 1) f fd ps (spJ n pre k post) := by
  refine fnG F S (spJ_len hn) fun cdv A outer s H vs Q E hg hr h => WB.nox ?_
  obtain ⟨j, ws, ds, N, c, rfl, kp, hj, jar, hc, hw, hl, hp, hq⟩ := h
  exact hb cdv A outer s H E N j c ws ds hg hr hc hw hl hp H kp hj jar _ hq
end Fr

set_option Elab.async false
set_option linter.all false
set_option maxRecDepth 100000
set_option maxHeartbeats 2000000
set_option autoImplicit false
namespace Fr
open PySem PySem.Spec PyProof.Rows L2

/-! enumerate(a text) -/
def ItS (x : Str) : It :=
  ⟨fun i _ => i < x.cps.size, fun i H v H' => ∃ T c, v = .ref T ∧ H T = none ∧ x.cps[i]? = some c ∧ H' = upd H T (.tup [.int (i : Nat), .str ⟨#[c]⟩]), fun i _ => i = x.cps.size⟩
theorem turnS {P : Program} {w : World} {K : PySem.W.Frag} {elts : List Expr} {kk : Nat} {tpos : Pos} (x : Str) (t : Tok) (e it : Addr) (hne : e ≠ it) :
    Turn P w K (.Tuple elts kk tpos) (ItS x) [e, it] e (fun i h => (∃ old, IsEnum h e it ((i : Nat) : Int) old) ∧ h.IsStrIter it (strIterType x) x t i) where
  mem := List.mem_cons_self
  obj := by
    rintro i h ⟨⟨old, he⟩, ⟨o, ho, hc, hd⟩⟩ b hb
    rcases List.mem_cons.mp hb with z | z
    · subst z; exact ⟨_, he, fun v q => nomatch q⟩
    · cases List.mem_singleton.mp z; exact ⟨o, ho, fun v q => by rw [hd] at q; cases q⟩
  keep := by
    rintro i h h' ⟨⟨old, he⟩, ⟨o, ho, r⟩⟩ k
    exact ⟨⟨old, k e List.mem_cons_self _ he⟩, ⟨o, k it (List.mem_cons_of_mem _ List.mem_cons_self) _ ho, r⟩⟩
  item := by
    intro X hP hw hK hc i pins s z H E I hf st hg
    subst hP hw hK
    obtain ⟨⟨old, he⟩, hit⟩ := st
    have hel : e < s.heap.objs.size := Heap.lt_size he
    have hil : it < s.heap.objs.size := by obtain ⟨o, q, _⟩ := hit; exact Heap.lt_size q
    have D := Draws.text (prog := X.prog) (w := X.w) (A := X.A.in1) (I.ok.hd hc) it x t
    refine wpAny_pyNext_enum_itemD D he hit hg hne (fun q => hne (List.mem_singleton.mp q)) fun u h' tk hu ho hit' hT hsz hk => ?_
    obtain ⟨ch, tu, hch, rfl⟩ := hu
    refine ⟨_, rfl, wpAny_letOwnedTupleGo_enum (s := { s with heap := h', toks := tk + 1 }) ho fun h2 he2 sb => ?_⟩
    have hT2 : h2.get? s.heap.objs.size = some { cls := .type "tuple", data := .seq #[.int i tk, .str ⟨#[ch]⟩ tu] } := (sb.2 _ (Nat.ne_of_gt hel)).trans hT
    have ok2 : ObjOk X.prog X.w (upd H s.heap.objs.size (.tup [.int (i : Nat), .str ⟨#[ch]⟩])) h2 s.heap.objs.size (.tup [.int (i : Nat), .str ⟨#[ch]⟩]) :=
      ⟨by show 2 ≤ sizeLine; decide, [.int i tk, .str ⟨#[ch]⟩ tu], .cons ⟨_, rfl⟩ (.cons ⟨_, rfl⟩ .nil), ⟨_, hT2, rfl, _, rfl⟩⟩
    have I2 : Inv X pins z (upd H s.heap.objs.size (.tup [.int (i : Nat), .str ⟨#[ch]⟩])) { s with heap := h2, toks := tk + 1 } :=
      I.turnedNew (ch := [e, it]) (fun b o hb q => (sb.2 b (fun y => hb (y ▸ List.mem_cons_self))).trans (hk b o (fun y => hb (y ▸ List.mem_cons_self)) (fun y => hb (y ▸ List.mem_cons_of_mem _ List.mem_cons_self)) q)) hf (Nat.le_refl _) ok2
    refine ⟨.ref s.heap.objs.size, _, I2, rfl, ⟨_, ch, rfl, I.hok.fresh (Nat.le_refl _), hch, rfl⟩, ⟨⟨.str ⟨#[ch]⟩ tu, ?_⟩, ?_⟩, fun b hb => ?_⟩
    · rw [show ((i + 1 : Nat) : Int) = (i : Int) + 1 by omega]
      exact he2
    · exact D.frame _ _ _ hit' fun b hb o q => (sb.2 b fun y => hne (y ▸ List.mem_singleton.mp hb)).trans q
    · have hlt : b < s.heap.objs.size := by
        rcases List.mem_cons.mp hb with y | y
        · rw [y]; exact hel
        · rw [List.mem_singleton.mp y]; exact hil
      rw [upd_ne (Nat.ne_of_lt hlt)]
      exact (hf b hb).1
  done := by
    intro X hP hw hK hc i pins s z H E I hf st hg
    subst hP hw hK
    obtain ⟨⟨old, he⟩, hit⟩ := st
    obtain ⟨f0, f1, f2, f3, f4, f5⟩ := hf it (List.mem_cons_of_mem _ List.mem_cons_self)
    have hi : i = x.cps.size := hg
    subst hi
    exact wpAny_pyNext_enum_endD (Draws.text (prog := X.prog) (w := X.w) (A := X.A.in1) (I.ok.hd hc) it x t) he hit fun h' eb => ⟨rfl, I.turned (t' := s.toks) (fun b o hb q => eb b o hb q) f0 f1 f3 f4 f5⟩
  self := fun A i s Q E st h => st.1.elim fun _ he => wpAny_pyIter_enum he h
def iEnumS (ta : TA) : TI := fun z H R => ta z H fun vs H1 => ∃ x, vs = [.str x] ∧ R (ItS x) H1
theorem pi_enumS {X : Cx} {e : Expr} {ta : TA} {p pos tpos : Pos} {elts : List Expr} {kk : Nat} (hm : X.mg "enumerate" = none) (ha : PA X [e] ta) (hg : Gl X "enumerate" := by rfl) (hs : starEach [e] X.env = [(false, eval e X.env)] := by rfl) :
    PI X (.Tuple elts kk tpos) (.Call (.Name "enumerate" p) [e] [] pos) (iEnumS ta) := by
  refine ⟨fun pins s z H R I h => Call_ (ld_blt I hg hm boot_enumerate (PyProof.Rows.callWith_type1 (thn (ha.run pos pins s z H _ I h) ?_) hs rfl))⟩
  rintro us s1 ⟨vs, H1, I1, r1, x, rfl, q⟩
  obtain ⟨u, rfl, t, rfl⟩ := vals1 r1
  refine call_enumerate_str fun h' he hit hsz hk => wpAny_pyIter_enum he ?_
  have I2 : Inv X pins z H1 { s1 with heap := h' } := I1.kept (t' := s1.toks) hk
  refine ⟨s1.heap.objs.size + 1, [s1.heap.objs.size + 1, s1.heap.objs.size], _, _, H1, rfl, I2, turnS x t _ _ (Nat.succ_ne_self _), ⟨⟨.none, he⟩, hit⟩, fun b hb => ?_, q⟩
  have hle : s1.heap.objs.size ≤ b := by
    rcases List.mem_cons.mp hb with y | y
    · rw [y]; exact Nat.le_add_right _ _
    · rw [List.mem_singleton.mp y]; exact Nat.le_refl _
  exact I1.fpOk hle (I1.hok.fresh hle)
/-- what enumerate gives of a text -/
def numS (x : Str) : List PyData := (List.range x.cps.size).map fun i => .tuple [.int (i : Nat), .str ⟨#[x.cps.getD i 0]⟩]
theorem itd_enumS {N : Hp} {w : Str} : ItD (ItS w) N (numS w) := fun i M p => by
  refine ⟨fun d e => ?_, fun hl => ?_⟩
  · unfold numS at e
    rw [List.getElem?_map] at e
    by_cases hi : i < w.cps.size
    · rw [List.getElem?_range hi] at e
      have e' := Option.some.inj e
      subst e'
      refine ⟨hi, ?_⟩
      rintro x K' ⟨T, c, rfl, nT, hc, rfl⟩
      have ec : w.cps.getD i 0 = c := by
        rw [Array.getD_eq_getD_getElem?, hc]
        rfl
      dsimp only
      rw [ec]
      exact ⟨.new nT, _, .laid p nT, .tup upd_same (.cons (.int _) (.cons (.str _) .nil))⟩
    · rw [List.getElem?_eq_none (by rw [List.length_range]; omega)] at e
      cases e
  · unfold numS at hl
    rw [List.length_map, List.length_range] at hl
    exact hl
section
variable {X : Cx} {z : L2.St} {N N' H H' : Hp} {j : Addr} {c k l m : Nat} {e a b t : Expr} {es : List Expr} {sts : List Stmt} {pos p p1 p2 : Pos} {d da db : PyData} {ds : List PyData} {v : V} {i : Nat} {x y : Str} {P P' : PyData → Prop} {R R' : List PyData → Prop}
theorem di_enumS {elts : List Expr} {kk : Nat} {tpos : Pos} {w : Str} (h : DE X z H e (.str w)) (hm : X.mg "enumerate" = none) (hg : Gl X "enumerate" := by rfl) (hs : starEach [e] X.env = [(false, eval e X.env)] := by rfl) : DI X z H (.Tuple elts kk tpos) (.Call (.Name "enumerate" p) [e] [] pos) (numS w) :=
  ⟨_, pi_enumS hm (pa_cons eE pa_nil (hs.trans rfl)) hg hs, fun H1 q R r => h H1 q _ fun v H2 N p2 n hv => ⟨w, by rw [hv.str_inv], r _ _ N p2 n itd_enumS⟩⟩

/-! a for over data -/
theorem ws_for {tg iter : Expr} {body : List Stmt} {g : TG} {D : Ends} (fo : ∀ x, foldedSetIterable iter X.env x = pure x) (hp : PassesOwn (model X.prog X.w) X.A X.env X.xe) (hc : X.calm = true) (hi : DI X z N tg iter ds) (hg : PG X tg g) (kp : Kp N H)
    (h : ∀ H2 N1, Kp H H2 → Nw N H N1 H2 → ∃ Pv : Nat → L2.St → Hp → Prop, Pv 0 z H2 ∧ (∀ i z K, Pv i z K → Kp N1 K) ∧ (∀ i d, ds[i]? = some d → ∀ z K, Pv i z K → ∀ v K' M, Kp K K' → Nw N1 K M K' → Dat M v d →
      g v z K' fun z2 K2 => WB X { D with nx := Pv (i + 1), ct := Pv (i + 1), bk := D.nx } z2 K2 body) ∧ ∀ z K, Pv ds.length z K → D.nx z K) : WS X D z H (.For tg iter body [] pos) := by
  obtain ⟨w, hw, hi⟩ := hi
  refine .on (ps_for hp hc hw hg eB fo) (hi H kp _ fun J H2 N1 p2 n it => ?_)
  obtain ⟨Pv, h0, hk, hs, hd⟩ := h H2 N1 p2 n
  refine ⟨fun i m z K => m = ds.length - i ∧ i ≤ ds.length ∧ Pv i z K, ⟨ds.length, by omega, by omega, h0⟩, ?_⟩
  rintro i m z K ⟨rfl, hil, pv⟩
  have kN := hk i z K pv
  by_cases hlt : i < ds.length
  · have e : ds[i]? = some ds[i] := List.getElem?_eq_getElem hlt
    obtain ⟨hgo, hy⟩ := (it i K kN).1 _ e
    refine .inr ⟨hgo, Pv (i + 1), fun z' K' q => ⟨_, by omega, rfl, hlt, q⟩, fun v K' yl => ?_⟩
    obtain ⟨k1, M, n1, hd1⟩ := hy v K' yl
    exact hs i _ e z K pv v K' M k1 n1 hd1
  · have e : i = ds.length := by omega
    exact .inl ⟨(it i K kN).2 e, hd z K (e ▸ pv)⟩
end
end Fr

set_option Elab.async false
set_option linter.all false
set_option maxRecDepth 100000
set_option maxHeartbeats 2000000
set_option autoImplicit false
namespace Fr
open PySem PySem.Spec PyProof.Rows L2

/-! calls of built-ins by data, of which the end is told -/
def RU1 (r : List V → Hp → VK → Prop) (d : PyData) (P : PyData → Prop) : Prop := ∀ (x : V) (K N : Hp) (Q : VK), Kp N K → Dat N x d → (∀ v K' M d', Kp K K' → Nw N K M K' → Dat M v d' → P d' → Q v K') → r [x] K Q
section
variable {X : Cx} {z : L2.St} {N N' H H' : Hp} {j : Addr} {c k l m : Nat} {e a b t : Expr} {es : List Expr} {sts : List Stmt} {pos p p1 p2 : Pos} {d da db : PyData} {ds : List PyData} {v : V} {i : Nat} {x y : Str} {P P' : PyData → Prop} {R R' : List PyData → Prop} {r : List V → Hp → VK → Prop}
theorem je_callB {id : String} (hc : CallR X (.builtin id) r) (ha : JE X z N j c a k P) (hr : ∀ d, P d → RU1 r d P') (hm : X.mg x = none) (hg : Gl X x := by rfl) (hv : bootBuiltins x = some (.builtin id) := by decide +kernel) (hn : x ≠ "__name__" := by decide) (hd : (x == ("__debug__" : Str)) = false := by decide)
    (s1 : starEach [a] X.env = (false, eval a X.env) :: starEach [] X.env := by rfl) (s3 : (backTo pos (starEach [] X.env)).any (·.1) = false := by rfl) : JE X z N j c (.Call (.Name x p) [a] [] pos) k P' := fun H kp h0 q Q hQ =>
  .on (pe_callB hc hg hm hv (pa_cons eE pa_nil s1) hn hd s1 s3) (ha H kp h0 q _ fun y H1 M d g hy hp => hr d hp y H1 M Q g.hi hy fun v K M' d' k1 n hv hp' => hQ v K M' d' (g.tr (.of k1 n g.jar)) hv hp')
theorem je_callTy {T : String} (hc : CallR X (.type T) r) (ha : JE X z N j c a k P) (hr : ∀ d, P d → RU1 r d P') (hm : X.mg x = none) (hg : Gl X x := by rfl) (hv : bootBuiltins x = some (.type T) := by decide +kernel) (hn : x ≠ "__name__" := by decide) (hd : (x == ("__debug__" : Str)) = false := by decide)
    (s1 : starEach [a] X.env = (false, eval a X.env) :: starEach [] X.env := by rfl) (s3 : (backTo pos (starEach [] X.env)).any (·.1) = false := by rfl) : JE X z N j c (.Call (.Name x p) [a] [] pos) k P' := fun H kp h0 q Q hQ =>
  .on (pe_callTy hc hg hm hv (pa_cons eE pa_nil s1) hn hd s1 s3) (ha H kp h0 q _ fun y H1 M d g hy hp => hr d hp y H1 M Q g.hi hy fun v K M' d' k1 n hv hp' => hQ v K M' d' (g.tr (.of k1 n g.jar)) hv hp')
theorem ru_tupleL : RU1 (fun xs H Q => ∃ p ys, xs = [.ref p] ∧ ((SqL X.K H p ys ∧ ∀ l, H l = none → Q (.ref l) (upd H l (.tup ys))) ∨ (SqT X.K H p ys ∧ Q (.ref p) H))) (.list ds) (fun d => d = .tuple ds) := fun x K N Q p hx q => by
  obtain ⟨l, xs, rfl, h1, h2⟩ := hx.lst_inv
  exact ⟨l, xs, rfl, .inl ⟨SqL.of (p _ _ h1), fun m hm => q _ _ _ _ (.new hm) (.laid p hm) (.tup upd_same (h2.kp (.new (p.none hm)))) rfl⟩⟩
theorem DatL.ofStrs {N : Hp} : ∀ ws : List Str, DatL N (ws.map V.str) (ws.map PyData.str)
  | [] => .nil
  | w :: ws => .cons (.str w) (DatL.ofStrs ws)
theorem keys_of : ∀ {kvs : List (Key × V)} {ks : List Str}, kvs.map (fun p => keyD p.1) = ks.map PyData.str → kvs.map (·.1) = ks.map Sum.inr
  | [], [], _ => rfl
  | [], _ :: _, h => by cases h
  | _ :: _, [], h => by cases h
  | (kk, vv) :: r, w :: ws, h => by
    rw [List.map_cons, List.map_cons] at h
    injection h with h4 h5
    rw [List.map_cons, List.map_cons, keys_of h5]
    cases kk with
    | inl n => cases h4
    | inr w' => injection h4 with h4; subst h4; rfl
/-- sorted of a dict whose keys are texts -/
theorem ru_sortedK {ks : List Str} (hl : ks.length < 64) (hk : ds.length = ks.length) : RU1 (fun xs H Q => ∃ (a : Addr) (kvs : List (Key × V)) (ks : List Str), xs = [.ref a] ∧ Rd H a (.dK kvs) ∧ kvs.map (·.1) = ks.map Sum.inr ∧ ks.length < 64 ∧
    ∀ ys p, ys.Perm ks → sortedS ys = true → H p = none → Q (.ref p) (upd H p (.lst (ys.map V.str)))) (.dict ((ks.map PyData.str).zip ds)) (fun d => ∃ ys : List Str, d = .list (ys.map PyData.str) ∧ ys.Perm ks ∧ sortedS ys = true) := fun x K N Q p hx q => by
  generalize e : PyData.dict ((ks.map PyData.str).zip ds) = d0 at hx
  cases hx with
  | dct h1 h2 h3 =>
    rename_i a kvs ks' ds'
    injection e with e
    have l3 : ks'.length = ds'.length := by
      rw [← h2, List.length_map, ← h3.len, List.length_map]
    have ek : ks.map PyData.str = ks' := by
      have := congrArg (List.map Prod.fst) e
      rw [List.map_fst_zip (by rw [List.length_map]; omega), List.map_fst_zip (by omega)] at this
      exact this
    refine ⟨a, kvs, ks, rfl, .inl (p _ _ h1), ?_, hl, fun ys l hp hs hl => q _ _ _ _ (.new hl) (.laid p hl) (.lst upd_same (DatL.ofStrs ys)) ⟨ys, rfl, hp, hs⟩⟩
    rw [← ek] at h2
    exact keys_of h2
  | _ => cases e
/-- xs.append(e), xs a list of one's own at l -/
theorem ws_append (i : Nat) {D : Ends} {o : Str} {l : Addr} {ys : List V} {po pa pc : Pos} (hz : z[i]? = some (some (.ref l))) (kp : Kp N H) (h0 : N j = none) (jar : Jar H j c) (hl : H l = some (.lst ys)) (hlj : l ≠ j) (hn : ys.length < 100000) (he : JE X z N j c e k P)
    (hD : ∀ v K M d, Go j N H M K (c + k) → Dat M v d → P d → K l = some (.lst ys) → D.nx z (upd K l (.lst (ys ++ [v]))))
    (hN : X.N[i]? = some o := by rfl) (hv : Vis X.env.scope o := by first | exact Or.inl rfl | exact Or.inr (Or.inl rfl) | exact Or.inr (Or.inr rfl)) (d1 : (o == ("__debug__" : Str)) = false := by decide) (d2 : (o == ("__classdict__" : Str)) = false := by decide)
    (hbase : attributeBase (.Name o po) "append" X.env (eval (.Name o po) X.env) = eval (.Name o po) X.env := by rfl)
    (hfew : ((backTo pc (starEach [e] X.env)).all (fun x => !x.1) && (backToKw pc (keywordEach [] X.env)).all (fun x => x.1.isSome) && decide (([e] : List Expr).length + ([] : List Keyword).length + (if ([] : List Keyword).isEmpty then 0 else 1) < 30)) = true := by rfl)
    (hline : (pa.endLine == pc.line) = true := by rfl) (s1 : starEach [e] X.env = (false, eval e X.env) :: starEach [] X.env := by rfl) (s3 : (backTo pc (starEach [] X.env)).any (·.1) = false := by rfl)
    (hs : swapsWith (.Call (.Attribute (.Name o po) "append" pa) [e] [] pc) none pos.line X.env = pure false := by rfl) : WS X D z H (.Expr (.Call (.Attribute (.Name o po) "append" pa) [e] [] pc) pos) :=
  .on (ps_expr (pe_bm PySem.F.plainAttrs_list PySem.F.slot_list_append PySem.F.type_list_append mt_append (pe_var hN hv d1 d2) (pa_cons eE pa_nil s1) hbase hfew hline s1 s3) hs)
    ⟨.ref l, hz, .inl ⟨rfl, _, SqL.of hl⟩, he H kp h0 jar _ fun v K M d g hv hp => by
      have hk : K l = some (.lst ys) := g.kj l _ hlj hl
      exact ⟨l, ys, v, rfl, rfl, hk, Nat.lt_of_lt_of_le hn (by decide), hD v K M d g hv hp hk⟩⟩

/-! iteration that draws -/
def JI (X : Cx) (z : L2.St) (N : Hp) (j : Addr) (c : Nat) (tg e : Expr) (k : Nat) (R : List PyData → Prop) : Prop := ∃ w : TI, PI X tg e w ∧ ∀ H, Kp N H → N j = none → Jar H j c → ∀ S : It → Hp → Prop, (∀ J H' M ds, Go j N H M H' (c + k) → ItD J M ds → R ds → S J H') → w z H S
theorem ji_di {tg : Expr} (h : DI X z N tg e ds) (hr : R ds) : JI X z N j c tg e k R := by
  obtain ⟨w, h1, h2⟩ := h
  exact ⟨w, h1, fun H kp h0 q S hS => h2 H kp S fun J H2 M p2 n it => hS J H2 M ds ((Go.of p2 n q).mono (by omega)) it hr⟩
def upTo (n : Nat) : List PyData := (List.range n).map fun i => .int ((i : Nat) : Int)
theorem itd_range {n : Nat} : ItD (Itr 0 n) N (upTo n) := fun i M p => by
  refine ⟨fun d e => ?_, fun hl => ?_⟩
  · unfold upTo at e
    rw [List.getElem?_map] at e
    by_cases hi : i < n
    · rw [List.getElem?_range hi] at e
      have e' := Option.some.inj e
      subst e'
      refine ⟨hi, ?_⟩
      rintro x K' ⟨rfl, rfl⟩
      exact ⟨.rfl, N, .rfl p, by dsimp only; rw [Int.zero_add]; exact .int _⟩
    · rw [List.getElem?_eq_none (by rw [List.length_range]; omega)] at e
      cases e
  · unfold upTo at hl
    rw [List.length_map, List.length_range] at hl
    exact Nat.le_of_eq hl.symm
theorem upTo_len (n : Nat) : (upTo n).length = n := by
  unfold upTo
  rw [List.length_map, List.length_range]
theorem ji_range {tg : Expr} {lo hi : Nat} (ha : JE X z N j c a k (fun d => ∃ n : Int, d = .int n ∧ (lo : Int) ≤ n ∧ n ≤ (hi : Int))) (hh : hi ≤ 1000000) (hm : X.mg "range" = none) (hg : Gl X "range" := by rfl) (s1 : starEach [a] X.env = [(false, eval a X.env)] := by rfl) :
    JI X z N j c tg (.Call (.Name "range" p) [a] [] pos) k (fun ds => ∃ n : Nat, ds = upTo n ∧ lo ≤ n ∧ n ≤ hi) := ⟨_, pi_range1 hg hm (pa_cons eE pa_nil (s1.trans rfl)) s1, fun H kp h0 q S hS => ha H kp h0 q _ fun v H' M d g hv ⟨n, e, n0, n1⟩ => by
  subst e
  refine ⟨n, by rw [hv.int_inv], by omega, by omega, hS _ _ M (upTo n.toNat) g itd_range ⟨n.toNat, rfl, by omega, by omega⟩⟩⟩
theorem je_lc {elt tg iter : Expr} {scope : Scope} {own : List (Str × Nat)} {g : TG} {L : Nat} (hi : JI X z N j c tg iter k R) (hL : ∀ ds, R ds → ds.length ≤ L) (hL2 : L ≤ 1000000)
    (hc : X.calm = true) (hN : X.N.Nodup) (ok : BlkOk X.N X.env.scope scope own)
    (hg : ∀ (s : Shared) (K : Hp) (C : Addr) (cl : List (Str × Addr)) (fp : List Addr), PG (X.blk s K scope (compEnvC scope cl C X.env) fp) tg g)
    (he : ∀ (ds : List PyData) (i : Nat) (d : PyData), R ds → ds[i]? = some d → ∀ (v : V) (M K : Hp) (Q : L2.St → Hp → Prop), Kp N M → M j = none → Kp M K → Dat M v d → (∀ z2, wipe z2 (own.map (·.2)) = wipe z (own.map (·.2)) →
      (∀ (s : Shared) (M0 : Hp) (C : Addr) (cl : List (Str × Addr)) (fp : List Addr), JE (X.blk s M0 scope (compEnvC scope cl C X.env) fp) z2 M j (c + k + i * l) elt l P) → Q z2 K) → g v (wipe z (own.map (·.2))) K Q)
    (hs : ∀ x, foldedSetIterable iter X.env x = pure x := by intro _; rfl) :
    JE X z N j c (.ListComp elt [⟨tg, iter, [], 0⟩] scope pos) (k + L * l) (fun d => ∃ es ds : List PyData, d = .list es ∧ R ds ∧ es.length = ds.length ∧ ∀ e ∈ es, P e) := fun H kp h0 q Q hQ => by
  obtain ⟨w, hw, hi⟩ := hi
  refine .on (pe_lc (te := fun z2 K Q => ∀ (s : Shared) (M0 : Hp) (C : Addr) (cl : List (Str × Addr)) (fp : List Addr), WE (X.blk s M0 scope (compEnvC scope cl C X.env) fp) z2 K elt Q) (own := own) hc hN hw ok hg (fun _ _ _ _ _ => pts_nil)
    (fun s M C cl fp => ⟨fun pins s' z2 K Q I h => h s M C cl fp pins s' I⟩) hs) ?_
  refine hi H kp h0 q _ fun J H2 N1 ds g1 it hR => ?_
  intro D hD
  have hlen := hL ds hR
  have hND : N1 D = none := g1.hi.none hD
  have hHD : H D = none := by
    cases e : H D with
    | none => rfl
    | some o =>
      have hj : D ≠ j := fun y => g1.jar.some (y ▸ hD)
      rw [g1.kj D o hj e] at hD
      cases hD
  have hjD : j ≠ D := fun y => by rw [← y] at hHD; exact q.some hHD
  let T : Nat → Hp → Prop := fun i K => i ≤ ds.length ∧ ∃ (ys : List V) (M : Hp) (es : List PyData), K D = some (.lst ys) ∧ M D = none ∧ Kp N1 M ∧ Go j N H M K (c + k + i * l) ∧ DatL M ys es ∧ es.length = i ∧ ∀ e ∈ es, P e
  refine ⟨fun i m K => m = ds.length - i ∧ T i K, ⟨ds.length, by omega, by omega, [], N1, [], upd_same, hND, .rfl, ?_, .nil, rfl, fun e h => nomatch h⟩, ?_⟩
  · refine ⟨fun a o ha e => ?_, g1.lo, fun a o e => ?_, g1.off, ?_⟩
    · by_cases hb : a = D
      · rw [hb, hHD] at e; cases e
      · rw [upd_ne hb]; exact g1.kj a o ha e
    · by_cases hb : a = D
      · rw [hb, hND] at e; cases e
      · rw [upd_ne hb]; exact g1.hi a o e
    · obtain ⟨a1, a2, a3, hh, rest⟩ := g1.jar.ex
      exact ⟨a1, a2, a3, by rw [upd_ne hjD]; exact hh, rest.1, rest.2.1, rest.2.2.1, rest.2.2.2.1, rest.2.2.2.2.1, by have := rest.2.2.2.2.2; omega⟩
  · rintro i m K ⟨rfl, hil, ys, M, es, hy, hMD, hNM, gK, hdy, hel, hP⟩
    have kNK : Kp N1 K := hNM.tr gK.hi
    by_cases hlt : i < ds.length
    · have hd : ds[i]? = some ds[i] := List.getElem?_eq_getElem hlt
      obtain ⟨hgo, hyl⟩ := (it i K kNK).1 _ hd
      refine .inr ⟨hgo, T (i + 1), fun K' h => ⟨ds.length - (i + 1), by omega, rfl, h⟩, fun x K' hx => ?_⟩
      obtain ⟨k1, N2, n2, hdx⟩ := hyl x K' hx
      obtain ⟨M2, m1, m2⟩ := n2.up hNM gK.hi k1
      have hKD : K D ≠ none := by rw [hy]; exact fun q => nomatch q
      have hM2D : M2 D = none := m2.off D hMD hKD
      have gK' : Go j N H M2 K' (c + k + i * l) := gK.tr (.of k1 m2 gK.jar)
      have hMj : M2 j = none := gK'.mj h0 q
      refine he ds i _ hR hd x M2 K' _ gK'.lo hMj gK'.hi (hdx.kp m1) fun z2 hw2 hE => ⟨hw2, ?_⟩
      unfold tYes
      dsimp only
      rw [if_pos rfl]
      intro s M0 C cl fp
      refine hE s M0 C cl fp K' gK'.hi hMj gK'.jar _ fun y K4 M4 dy g4 hdat hPd => ?_
      have hK'D : K' D = some (.lst ys) := k1 _ _ hy
      have hK4D : K4 D = some (.lst ys) := g4.kj D _ (Ne.symm hjD) hK'D
      have hM4D : M4 D = none := g4.off D hM2D (by rw [hK'D]; exact fun q => nomatch q)
      have gg : Go j N H M4 K4 (c + k + i * l + l) := gK'.tr g4
      have hll : ys.length = i := by rw [hdy.len, hel]
      refine ⟨ys, hK4D, ?_, hlt, ys ++ [y], M4, es ++ [dy], upd_same, hM4D, ?_, ?_, (hdy.kp (m2.lo.tr g4.lo)).app (.cons hdat .nil), by rw [List.length_append, hel]; rfl, fun e h => ?_⟩
      · have := big_of hL2
        omega
      · exact hNM.tr (m2.lo.tr g4.lo)
      · refine ⟨fun a o ha e => ?_, gg.lo, fun a o e => ?_, gg.off, ?_⟩
        · by_cases hb : a = D
          · rw [hb, hHD] at e; cases e
          · rw [upd_ne hb]; exact gg.kj a o ha e
        · by_cases hb : a = D
          · rw [hb, hM4D] at e; cases e
          · rw [upd_ne hb]; exact gg.hi a o e
        · obtain ⟨a1, a2, a3, hh, rest⟩ := gg.jar.ex
          refine ⟨a1, a2, a3, by rw [upd_ne hjD]; exact hh, rest.1, rest.2.1, rest.2.2.1, rest.2.2.2.1, rest.2.2.2.2.1, ?_⟩
          have := rest.2.2.2.2.2
          have e : (i + 1) * l = i * l + l := Nat.succ_mul i l
          rw [e]
          omega
      · rcases List.mem_append.mp h with h | h
        · exact hP e h
        · cases List.mem_singleton.mp h; exact hPd
    · have e : i = ds.length := by omega
      refine .inl ⟨(it i K kNK).2 e, ?_⟩
      have hle : i * l ≤ L * l := Nat.mul_le_mul_right l (by omega)
      refine hQ _ K (upd M D (.lst ys)) (.list es) ⟨gK.kj, gK.lo.tr (.new hMD), fun a o e => ?_, fun a h1 h2 => ?_, gK.jar.mono (by omega)⟩ (.lst upd_same (hdy.kp (.new hMD))) ⟨es, ds, rfl, hR, by omega, hP⟩
      · by_cases hb : a = D
        · subst hb
          rw [upd_same] at e
          rw [hy]
          exact e
        · rw [upd_ne hb] at e
          exact gK.hi a o e
      · have hb : a ≠ D := fun y => h2 (y ▸ hHD)
        rw [upd_ne hb]
        exact gK.off a h1 h2
end
end Fr

set_option Elab.async false
set_option linter.all false
set_option maxRecDepth 100000
set_option maxHeartbeats 2000000
set_option autoImplicit false
namespace Fr
open PySem PySem.Spec PyProof.Rows L2

/-! the drawn rows -/
def l7 : List Nat := [100, 98, 97, 101, 99, 103, 102]
def w7 (n : Nat) : Str := ⟨(l7.take n).toArray⟩
def lt7 (i : Nat) : Str := ⟨#[l7.getD i 0]⟩
theorem cut_w7 : ∀ n : Nat, n ≤ 7 → cutS ("dbaecgf" : Str) none (some (n : Int)) = w7 n := fun n h => by
  match n, h with
  | 0, _ => decide +kernel
  | 1, _ => decide +kernel
  | 2, _ => decide +kernel
  | 3, _ => decide +kernel
  | 4, _ => decide +kernel
  | 5, _ => decide +kernel
  | 6, _ => decide +kernel
  | 7, _ => decide +kernel
theorem w7_size {n : Nat} (h : n ≤ 7) : (w7 n).cps.size = n := by
  show (l7.take n).toArray.size = n
  rw [List.size_toArray, List.length_take]
  show min n 7 = n
  omega
theorem w7_get {n i : Nat} (h : i < n) (h7 : n ≤ 7) : (w7 n).cps.getD i 0 = l7.getD i 0 := by
  have e : (w7 n).cps[i]? = l7[i]? := by
    show (l7.take n).toArray[i]? = _
    rw [List.getElem?_toArray, List.getElem?_take_of_lt h]
  rw [Array.getD_eq_getD_getElem?, e, List.getD_eq_getElem?_getD]
def heldD (p : Str × Int) : PyData := .tuple [.str p.1, .int p.2]
def HeldOk (hs : List (Str × Int)) (ks : List Str) : Prop := (hs.map (·.1)).Sublist ks ∧ ∀ p ∈ hs, 1 ≤ p.2 ∧ p.2 ≤ 5
def letters7 (n : Nat) : List Str := (List.range n).map lt7
def LaterOk (n : Nat) (ls : List Str) : Prop := sortedS ls = true ∧ ls.Nodup ∧ (∀ x ∈ ls, x ∈ letters7 n) ∧ ls.length ≤ 3
def RowOk (n i : Nat) (r : PyData) : Prop := ∃ (hs : List (Str × Int)) (ls : List Str), r = .tuple [.str (lt7 i), .tuple (hs.map heldD), .tuple (ls.map PyData.str)] ∧ HeldOk hs ["x", "y", "z"] ∧ LaterOk n ls
def RowsOk (most : Int) (d : PyData) : Prop := ∃ rows : List PyData, d = .tuple rows ∧ 2 ≤ rows.length ∧ (rows.length : Int) ≤ most ∧ rows.length ≤ 7 ∧ ∀ i r, rows[i]? = some r → RowOk rows.length i r
theorem mem_w7 {n : Nat} (h : n ≤ 7) {d : PyData} (m : d ∈ signs (w7 n)) : ∃ x ∈ letters7 n, d = .str x := by
  unfold signs at m
  obtain ⟨c, hc, e⟩ := List.mem_map.mp m
  have hc' : c ∈ l7.take n := by simpa [w7] using hc
  obtain ⟨i, hi, ei⟩ := List.mem_iff_getElem.mp hc'
  rw [List.length_take] at hi
  refine ⟨⟨#[c]⟩, List.mem_map.mpr ⟨i, List.mem_range.mpr (by omega), ?_⟩, e.symm⟩
  have hl : i < l7.length := by omega
  show (⟨#[l7.getD i 0]⟩ : Str) = ⟨#[c]⟩
  rw [List.getD_eq_getElem?_getD, List.getElem?_eq_getElem hl]
  rw [List.getElem_take] at ei
  rw [← ei]
  rfl
/-- what d[k] = v does to the keys -/
theorem putK_keys {kvs : List (Key × V)} {ks : List Str} (h : kvs.map (·.1) = ks.map Sum.inr) (w : Str) (v : V) : ∃ ks' : List Str, (putK kvs (.inr w) v).map (·.1) = ks'.map Sum.inr ∧ (ks.Nodup → ks'.Nodup) ∧ (∀ x ∈ ks', x ∈ ks ∨ x = w) ∧ ks'.length ≤ ks.length + 1 := by
  unfold putK
  split
  · refine ⟨ks, ?_, id, fun x hx => .inl hx, by omega⟩
    rw [← h, List.map_map]
    congr 1
    funext kv
    show (if kv.1 = Sum.inr w then (kv.1, v) else kv).1 = kv.1
    split <;> rfl
  · rename_i hn
    refine ⟨ks ++ [w], ?_, fun hd => ?_, fun x hx => ?_, by rw [List.length_append]; exact Nat.le_refl _⟩
    · rw [List.map_append, List.map_append, h]
      rfl
    · refine List.nodup_append.mpr ⟨hd, by simp, fun a ha b hb => ?_⟩
      cases List.mem_singleton.mp hb
      intro e
      subst e
      have hm : (Sum.inr a : Key) ∈ kvs.map (·.1) := by rw [h]; exact List.mem_map.mpr ⟨a, ha, rfl⟩
      obtain ⟨kv, hk, e⟩ := List.mem_map.mp hm
      exact hn (List.any_eq_true.mpr ⟨kv, hk, decide_eq_true e⟩)
    · rcases List.mem_append.mp hx with h1 | h1
      · exact .inl h1
      · exact .inr (List.mem_singleton.mp h1)
theorem mergeK_keys : ∀ (more : List (Key × V)) (ms : List Str) (kvs : List (Key × V)) (ks : List Str), more.map (·.1) = ms.map Sum.inr → kvs.map (·.1) = ks.map Sum.inr → ks.Nodup →
    ∃ ks' : List Str, (mergeK kvs more).map (·.1) = ks'.map Sum.inr ∧ ks'.Nodup ∧ (∀ x ∈ ks', x ∈ ks ∨ x ∈ ms) ∧ ks'.length ≤ ks.length + ms.length
  | [], ms, kvs, ks, h, h2, hd => ⟨ks, h2, hd, fun x hx => .inl hx, by omega⟩
  | (k, v) :: r, [], kvs, ks, h, _, _ => by cases h
  | (k, v) :: r, w :: ws, kvs, ks, h, h2, hd => by
    rw [List.map_cons, List.map_cons] at h
    injection h with h3 h4
    have h3' : k = Sum.inr w := h3
    subst h3'
    obtain ⟨k1, e1, d1, m1, l1⟩ := putK_keys h2 w v
    obtain ⟨k2, e2, d2, m2, l2⟩ := mergeK_keys r ws _ k1 h4 e1 (d1 hd)
    refine ⟨k2, e2, d2, fun x hx => ?_, by rw [List.length_cons]; omega⟩
    rcases m2 x hx with q | q
    · rcases m1 x q with q | q
      · exact .inl q
      · exact .inr (q ▸ List.mem_cons_self)
    · exact .inr (List.mem_cons_of_mem _ q)
/-! a heap's cell counted into the base -/
theorem Kp.put {N H : Hp} {a : Addr} {o : HO} (p : Kp N H) (h : H a = some o) : Kp (upd N a o) H := fun b u e => by
  by_cases q : b = a
  · subst q
    rw [upd_same] at e
    rw [h]
    exact e
  · rw [upd_ne q] at e
    exact p b u e
theorem Go.put {j : Addr} {N H M K : Hp} {c : Nat} {a : Addr} {o : HO} (g : Go j N H M K c) (h : K a = some o) (hH : H a = none) (hM : M a = none) : Go j N H (upd M a o) K c :=
  ⟨g.kj, g.lo.tr (.new hM), g.hi.put h, fun b h1 h2 => by
    have q : b ≠ a := fun q => h2 (q ▸ hH)
    rw [upd_ne q]
    exact g.off b h1 h2, g.jar⟩
/-- a cell of one's own changes -/
theorem Go.own {j : Addr} {N H M K : Hp} {c : Nat} {a : Addr} {o : HO} (g : Go j N H M K c) (hj : a ≠ j) (hH : H a = none) (hM : M a = none) : Go j N H M (upd K a o) c :=
  ⟨fun b u hb e => by
    have q : b ≠ a := fun q => by rw [q, hH] at e; cases e
    rw [upd_ne q]
    exact g.kj b u hb e, g.lo, fun b u e => by
    have q : b ≠ a := fun q => by rw [q, hM] at e; cases e
    rw [upd_ne q]
    exact g.hi b u e, g.off, by
    obtain ⟨x, y, w, h1, h2⟩ := g.jar.ex
    exact ⟨x, y, w, by rw [upd_ne (Ne.symm hj)]; exact h1, h2⟩⟩
theorem numS_get {n i : Nat} {d : PyData} (h7 : n ≤ 7) (h : (numS (w7 n))[i]? = some d) : i < n ∧ d = .tuple [.int (i : Nat), .str (lt7 i)] := by
  unfold numS at h
  rw [List.getElem?_map, w7_size h7] at h
  by_cases hi : i < n
  · rw [List.getElem?_range hi] at h
    have e := Option.some.inj h
    refine ⟨hi, e.symm.trans ?_⟩
    dsimp only
    rw [w7_get hi h7]
    rfl
  · rw [List.getElem?_eq_none (by rw [List.length_range]; omega)] at h
    cases h
theorem numS_len {n : Nat} (h7 : n ≤ 7) : (numS (w7 n)).length = n := by
  unfold numS
  rw [List.length_map, List.length_range, w7_size h7]
def xyz : List Str := ["x", "y", "z"]
theorem HeldOk.skip {hs : List (Str × Int)} {t : Nat} (h : HeldOk hs (xyz.take t)) : HeldOk hs (xyz.take (t + 1)) :=
  ⟨h.1.trans (List.take_sublist_take_left (by omega)), h.2⟩
theorem HeldOk.add {hs : List (Str × Int)} {t : Nat} {x : Str} {n : Int} (h : HeldOk hs (xyz.take t)) (hx : xyz[t]? = some x) (h1 : 1 ≤ n) (h5 : n ≤ 5) : HeldOk (hs ++ [(x, n)]) (xyz.take (t + 1)) := by
  refine ⟨?_, fun p hp => ?_⟩
  · rw [List.map_append, List.take_add_one, hx]
    exact h.1.append (List.Sublist.refl _)
  · rcases List.mem_append.mp hp with q | q
    · exact h.2 p q
    · cases List.mem_singleton.mp q
      exact ⟨h1, h5⟩
end Fr

set_option Elab.async false
set_option linter.all false
set_option maxRecDepth 100000
set_option maxHeartbeats 2000000
set_option autoImplicit false
namespace Fr
open PySem PySem.Spec PyProof.Rows L2

/-! a cell of one's own: in the heap, not in the base -/
structure Own (M K : Hp) (a : Addr) (o : HO) : Prop where
  k : K a = some o
  m : M a = none
section
variable {j a b l : Addr} {N H M K M' K' : Hp} {c c' : Nat} {o u : HO}
theorem Own.go (h : Own M K a o) (g : Go j M K M' K' c) (hj : a ≠ j) : Own M' K' a o := ⟨g.kj a o hj h.k, g.off a h.m (by rw [h.k]; exact fun q => nomatch q)⟩
theorem Own.kp (h : Own M K a o) (p : Kp K K') (n : Nw M K M' K') : Own M' K' a o := ⟨p _ _ h.k, n.off a h.m (by rw [h.k]; exact fun q => nomatch q)⟩
theorem Own.over (h : Own M K a o) (hb : a ≠ b) : Own M (upd K b u) a o := ⟨by rw [upd_ne hb]; exact h.k, h.m⟩
theorem Own.put (h : Own M K a o) (hb : a ≠ b) : Own (upd M b u) K a o := ⟨h.k, by rw [upd_ne hb]; exact h.m⟩
theorem Own.ne (h : Own M K a o) (hb : K b = none) : b ≠ a := fun q => by rw [q, h.k] at hb; cases hb
theorem Go.free (g : Go j N H M K c) (h : K a = none) : a ≠ j ∧ H a = none ∧ M a = none := by
  have hj : a ≠ j := fun q => g.jar.some (q ▸ h)
  refine ⟨hj, ?_, g.hi.none h⟩
  cases e : H a with
  | none => rfl
  | some o => rw [g.kj a o hj e] at h; cases h
theorem Go.fresh (g : Go j N H M K c) (h : K a = none) : Go j N H M (upd K a o) c := by
  obtain ⟨h1, h2, h3⟩ := g.free h
  exact g.own h1 h2 h3
theorem ite_join {q : Prop} {inst : Decidable q} {A : Prop} {W : Hp → Addr → Prop} {I : Hp → Addr → Prop} (K : Hp) (d : Addr) (h0 : I K d) (h1 : q → (∀ K d, I K d → W K d) → A) (t : ∀ K d, I K d → W K d) : if q then A else W K d := by
  split
  · exact h1 ‹_› t
  · exact t _ _ h0
end
/-- the keys of a dict of one's own -/
def LKeys (n b : Nat) (kvs : List (Key × V)) : Prop := ∃ ks : List Str, kvs.map (·.1) = ks.map Sum.inr ∧ ks.Nodup ∧ (∀ x ∈ ks, x ∈ letters7 n) ∧ ks.length ≤ b
theorem LKeys.len {n b : Nat} {kvs : List (Key × V)} (h : LKeys n b kvs) : kvs.length ≤ b := by
  obtain ⟨ks, e, _, _, l⟩ := h
  have := congrArg List.length e
  rw [List.length_map, List.length_map] at this
  omega
theorem LKeys.put {n b : Nat} {kvs : List (Key × V)} {x : Str} {v : V} (h : LKeys n b kvs) (hx : x ∈ letters7 n) : LKeys n (b + 1) (putK kvs (.inr x) v) := by
  obtain ⟨ks, e, hd, m, l⟩ := h
  obtain ⟨ks', e', d', m', l'⟩ := putK_keys e x v
  exact ⟨ks', e', d' hd, fun y hy => (m' y hy).elim (m y) fun q => q ▸ hx, by omega⟩
theorem LKeys.mono {n b b' : Nat} {kvs : List (Key × V)} (h : LKeys n b kvs) (l : b ≤ b') : LKeys n b' kvs := by
  obtain ⟨ks, e, hd, m, l'⟩ := h
  exact ⟨ks, e, hd, m, by omega⟩
theorem pairs_of {K : PySem.W.Frag} {N : Hp} {n : Nat} : ∀ {xs : List V} {es : List PyData}, DatL N xs es → (∀ e ∈ es, ∃ x ∈ letters7 n, e = .tuple [.str x, .bool true]) →
    ∃ (ps : List Addr) (kvs : List (Key × V)) (ms : List Str), xs = ps.map V.ref ∧ (∀ H, Kp N H → Paired (fun p kv => SqT K H p [kV kv.1, kv.2]) ps kvs) ∧ kvs.map (·.1) = ms.map Sum.inr ∧ (∀ x ∈ ms, x ∈ letters7 n) ∧ ms.length = es.length
  | _, _, .nil, _ => ⟨[], [], [], rfl, fun _ _ => .nil, rfl, (fun x h => nomatch h), rfl⟩
  | _, _, .cons (d := d) a b, h => by
    obtain ⟨x, hx, rfl⟩ := h d List.mem_cons_self
    obtain ⟨ps, kvs, ms, rfl, h2, h3, h4, h5⟩ := pairs_of b fun e he => h e (List.mem_cons_of_mem _ he)
    obtain ⟨l, us, rfl, h6, h7⟩ := a.tup_inv
    cases h7 with
    | cons q1 q2 =>
    cases q2 with
    | cons q3 q4 =>
    cases q4
    obtain rfl := q1.str_inv
    obtain rfl := q3.bool_inv
    refine ⟨l :: ps, (.inr x, .bl true) :: kvs, x :: ms, rfl, fun H p => .cons (SqT.of (p _ _ h6)) (h2 H p), by rw [List.map_cons, List.map_cons, h3], fun y hy => ?_, by rw [List.length_cons, List.length_cons, h5]⟩
    cases hy with
    | head => exact hx
    | tail _ hy => exact h4 y hy
theorem LKeys.merge {n b : Nat} {kvs : List (Key × V)} {ms : List Str} (h : kvs.map (·.1) = ms.map Sum.inr) (hm : ∀ x ∈ ms, x ∈ letters7 n) (hl : ms.length ≤ b) : LKeys n b (mergeK [] kvs) := by
  obtain ⟨ks, e, hd, m, l⟩ := mergeK_keys kvs ms [] [] h rfl .nil
  exact ⟨ks, e, hd, fun y hy => (m y hy).elim (fun q => nomatch q) (hm y), by rw [List.length_nil] at l; omega⟩
section
variable {X : Cx} {z : L2.St} {N : Hp} {j : Addr} {c : Nat} {pos p p1 : Pos} {x y : Str}
/-- sorted of a dict of one's own -/
theorem je_sortedD (i : Nat) {d : Addr} {kvs : List (Key × V)} {ks : List Str} (hz : z[i]? = some (some (.ref d))) (hd : N d = some (.dK kvs)) (hk : kvs.map (·.1) = ks.map Sum.inr) (hl : ks.length < 64) (hcm : X.calm = true) (hm : X.mg x = none)
    (hN : X.N[i]? = some y := by rfl) (hv : Vis X.env.scope y := by first | exact Or.inl rfl | exact Or.inr (Or.inl rfl) | exact Or.inr (Or.inr rfl)) (d1 : (y == ("__debug__" : Str)) = false := by decide) (d2 : (y == ("__classdict__" : Str)) = false := by decide)
    (hg : Gl X x := by rfl) (hb : bootBuiltins x = some (.builtin "sorted") := by decide +kernel) (hn : x ≠ "__name__" := by decide) (hdb : (x == ("__debug__" : Str)) = false := by decide)
    (s1 : starEach [.Name y p1] X.env = (false, eval (.Name y p1) X.env) :: starEach [] X.env := by rfl) (s3 : (backTo pos (starEach [] X.env)).any (·.1) = false := by rfl) :
    JE X z N j c (.Call (.Name x p) [.Name y p1] [] pos) 0 (fun e => ∃ ys : List Str, e = .list (ys.map PyData.str) ∧ ys.Perm ks ∧ sortedS ys = true) := fun H kp h0 q Q hQ =>
  .on (pe_callB (call_sortedD hcm) hg hm hb (pa_cons (pe_var hN hv d1 d2) pa_nil s1) hn hdb s1 s3) ⟨.ref d, hz, d, kvs, ks, rfl, .inl (kp _ _ hd), hk, hl, fun ys p hp hs hl => hQ _ _ (upd N p (.lst (ys.map V.str))) _ (Go.of (.new hl) (.laid kp hl) q) (.lst upd_same (DatL.ofStrs ys)) ⟨ys, rfl, hp, hs⟩⟩
end
section
variable {X : Cx} {z : L2.St} {N H : Hp} {j : Addr} {c k : Nat} {e : Expr} {P : PyData → Prop} {Q : VK} {Pb : Bool → Prop} {QT : Bool → Hp → Prop}
theorem JE.go (h : JE X z N j c e k P) (p : Kp N H) (h0 : N j = none) (q : Jar H j c) (hQ : ∀ v H' M d, Go j N H M H' (c + k) → Dat M v d → P d → Q v H') : WE X z H e Q := h H p h0 q Q hQ
theorem JT.go (h : JT X z N j c e k Pb) (p : Kp N H) (h0 : N j = none) (q : Jar H j c) (hQ : ∀ b H' M, Go j N H M H' (c + k) → Pb b → QT b H') : WT X z H e QT := h H p h0 q QT hQ
end
theorem lt7_mem {n i : Nat} (h : i < n) : lt7 i ∈ letters7 n := List.mem_map.mpr ⟨i, List.mem_range.mpr h, rfl⟩
theorem w7_at {n i : Nat} (h : i < n) (h7 : n ≤ 7) : L2.atI (w7 n).cps.toList (i : Nat) = some (l7.getD i 0) := by
  refine atI_nat ?_
  show (l7.take n).toArray.toList[i]? = _
  rw [List.toList_toArray, List.getElem?_take_of_lt h, List.getD_eq_getElem?_getD]
  have hl : i < l7.length := by show i < 7; omega
  rw [List.getElem?_eq_getElem hl]
  rfl
end Fr

set_option Elab.async false
set_option linter.all false
set_option maxRecDepth 100000
set_option maxHeartbeats 2000000
set_option autoImplicit false
namespace Fr
open PySem PySem.Spec PyProof.Rows L2

/-! sorted of a list of data that are alike -/
def rSortX (K : PySem.W.Frag) : List V → Hp → VK → Prop := fun vs H Q => ∃ (a : Addr) (xs : List V) (ds : List PyData) (N : Hp), vs = [.ref a] ∧ SqL K H a xs ∧ Kp N H ∧ DatL N xs ds ∧ PySem.W.AllAlike ds ∧ PySem.W.Sortable ds ∧ ds.length ≤ 1000000 ∧ (∀ d ∈ ds, d.depth ≤ 60) ∧
  ∀ (ys : List V) (p : Addr), DatL N ys (ds.mergeSort (PySem.W.dataLe false id)) → H p = none → Q (.ref p) (upd H p (.lst ys))
def Stands (H : Hp) (u : Value) (d : PyData) : Prop := ∃ x, RelV x u ∧ Dat H x d
theorem stands_of {H : Hp} : ∀ {xs : List V} {us : List Value} {ds : List PyData}, Vals xs us → DatL H xs ds → PySem.W.EachIs (Stands H) us ds
  | _, _, _, .nil, .nil => .nil
  | _, _, _, .cons a b, .cons c d => .cons ⟨_, a, c⟩ (stands_of b d)
theorem stands_to {H : Hp} : ∀ {us : List Value} {ds : List PyData}, PySem.W.EachIs (Stands H) us ds → ∃ xs, Vals xs us ∧ DatL H xs ds
  | _, _, .nil => ⟨[], .nil, .nil⟩
  | _, _, .cons ⟨x, h1, h2⟩ t => by
    obtain ⟨xs, h3, h4⟩ := stands_to t
    exact ⟨x :: xs, .cons h1 h3, .cons h2 h4⟩
theorem stands_reads {X : Cx} {pins : List (Addr × Obj)} {z : L2.St} {H N : Hp} {s : Shared} (I : Inv X pins z H s) (p : Kp N H) : ∀ {us : List Value} {ds : List PyData}, PySem.W.EachIs (Stands N) us ds → PySem.W.EachIs (fun v d => ∃ as, Reads s.heap v (id d) as) us ds
  | _, _, .nil => .nil
  | _, _, .cons ⟨x, h1, h2⟩ t => .cons ((h2.kp p).reads I h1) (stands_reads I p t)
section
variable {X : Cx}
theorem cr_sortX (hu : X.A.units + 64 < cLine) : CallR X (.builtin "sorted") (rSortX X.K) := by
  intro pins s σ H vs us Q I r h
  obtain ⟨a, xs, ds, N, rfl, hs, p, hx, hal, hk, hn, hdp, q⟩ := h
  obtain ⟨its, rv, hl, hz⟩ := I.list hs
  rw [Vals.ref1 r]
  have e := stands_of rv hx
  refine PySem.W.sorted_data (β := PyData) (enc := id) (bs := ds) (R := Stands N) hl.isList e (stands_reads I p e) (by rw [List.map_id]; exact hal) (by rw [List.map_id]; exact hk) (big_of hn) (fun b hb => ?_) fun out ho he => ?_
  · have := hdp b hb
    show X.A.units + 2 + b.depth < cLine
    omega
  obtain ⟨ys, h1, h2⟩ := stands_to he
  obtain ⟨ep, he'⟩ := PyProof.Rows.sortedAll_at s.heap its out.toArray
  have hlen : ys.length ≤ sizeLine := by rw [h1.length, ho]; exact big_of hn
  exact ⟨.ref _, upd H (s.heap.objs.size + 1) (.lst ys), I.laid (t' := s.toks) (fun _ _ => PyProof.Rows.sortedAll_old) (Nat.le_succ _) ⟨hlen, out, ep, h1, he'⟩, rfl, q ys _ h2 (I.hok.fresh (Nat.le_succ _))⟩
theorem ru_sortX {ds : List PyData} (hal : PySem.W.AllAlike ds) (hk : PySem.W.Sortable ds) (hn : ds.length ≤ 1000000) (hd : ∀ d ∈ ds, d.depth ≤ 60) : RU1 (rSortX X.K) (.list ds) (fun d => d = .list (ds.mergeSort (PySem.W.dataLe false id))) := fun x K N Q p hx q => by
  obtain ⟨l, xs, rfl, h1, h2⟩ := hx.lst_inv
  exact ⟨l, xs, ds, N, rfl, SqL.of (p _ _ h1), p, h2, hal, hk, hn, hd, fun ys p' hy hp => q _ _ (upd N p' (.lst ys)) _ (.new hp) (.laid p hp) (.lst upd_same (hy.kp (.new (p.none hp)))) rfl⟩
end
end Fr

set_option Elab.async false
set_option linter.all false
set_option maxRecDepth 100000
set_option maxHeartbeats 2000000
set_option autoImplicit false
namespace Fr
open PySem PySem.Spec PyProof.Rows L2

/-! a comprehension over the keys of a dict of tuples, under its lock -/
section
variable {X : Cx} {z : L2.St} {N H : Hp} {q : Addr} {od : Obj} {kvs : List (List Key × V)} {pos p : Pos} {x : Str} {i : Nat}
theorem we_lcK {elt tg : Expr} {scope : Scope} {own : List (Str × Nat)} {g : TG} {f : List Key → PyData} {Q : VK} (kp : Kp N H) (hq : H q = some (.frz od (.dT kvs))) (hz : z[i]? = some (some (.ref q))) (hl : kvs.length ≤ 1000000)
    (hc : X.calm = true) (hN : X.N.Nodup) (ok : BlkOk X.N X.env.scope scope own) (hx : X.N[i]? = some x) (hvis : Vis X.env.scope x) (d1 : (x == ("__debug__" : Str)) = false) (d2 : (x == ("__classdict__" : Str)) = false)
    (hg : ∀ (s : Shared) (K : Hp) (C : Addr) (cl : List (Str × Addr)) (fp : List Addr), PG (X.blk s K scope (compEnvC scope cl C X.env) fp) tg g)
    (he : ∀ kv ∈ kvs, ∀ (a : Addr) (K : Hp) (Q : L2.St → Hp → Prop), Kp H K → K a = some (.tup (kv.1.map kV)) → (∀ z2, wipe z2 (own.map (·.2)) = wipe z (own.map (·.2)) →
      (∀ (s : Shared) (M : Hp) (C : Addr) (cl : List (Str × Addr)) (fp : List Addr) (Q' : VK), (∀ y H2 N2, Kp K H2 → Nw N K N2 H2 → Dat N2 y (f kv.1) → Q' y H2) → WE (X.blk s M scope (compEnvC scope cl C X.env) fp) z2 K elt Q') → Q z2 K) → g (.ref a) (wipe z (own.map (·.2))) K Q)
    (hQ : ∀ v H2 N2, Kp H H2 → Nw N H N2 H2 → Dat N2 v (.list (kvs.map fun kv => f kv.1)) → Q v H2)
    (hs : ∀ y, foldedSetIterable (.Name x p) X.env y = pure y := by intro _; rfl) :
    WE X z H (.ListComp elt [⟨tg, .Name x p, [], 0⟩] scope pos) Q := by
  refine .on (pe_lc (te := fun z2 K Q => ∀ (s : Shared) (M : Hp) (C : Addr) (cl : List (Str × Addr)) (fp : List Addr), WE (X.blk s M scope (compEnvC scope cl C X.env) fp) z2 K elt Q) (own := own) hc hN (pi_keys (pe_var hx hvis d1 d2)) ok hg (fun _ _ _ _ _ => pts_nil)
    (fun s M C cl fp => ⟨fun pins s' z2 K Q I h => h s M C cl fp pins s' I⟩) hs) ?_
  refine ⟨.ref q, hz, q, od, rfl, .inr ⟨kvs, hq, ?_⟩⟩
  intro D hD
  have hND : N D = none := kp.none hD
  let R : Nat → Hp → Prop := fun i K => i ≤ kvs.length ∧ Kp H K ∧ ∃ ys M, K D = some (.lst ys) ∧ M D = none ∧ Nw N H M K ∧ DatL M ys ((kvs.take i).map fun kv => f kv.1)
  refine ⟨fun i m K => m = kvs.length - i ∧ R i K, ⟨kvs.length, by omega, by omega, .new hD, [], N, upd_same, hND, (Nw.rfl kp).more (.new hD), by rw [List.take_zero]; exact .nil⟩, ?_⟩
  rintro i m K ⟨rfl, hil, kpK, ys, M, hy, hMD, hM, hdy⟩
  by_cases hlt : i < kvs.length
  · have hd : kvs[i]? = some kvs[i] := List.getElem?_eq_getElem hlt
    refine .inr ⟨⟨kpK _ _ hq, hlt⟩, R (i + 1), fun K' h => ⟨kvs.length - (i + 1), by omega, rfl, h⟩, ?_⟩
    rintro v K' ⟨rfl, k, w, a, hkv, rfl, ha⟩
    have hkv' : kvs[i] = (k, w) := by rw [hd] at hkv; exact Option.some.inj hkv
    refine he _ (List.getElem_mem hlt) a _ _ kpK (by rw [hkv']; exact ha) fun z2 hw2 hE => ⟨hw2, ?_⟩
    unfold tYes
    dsimp only
    rw [if_pos rfl]
    intro s M0 C cl fp
    refine hE s M0 C cl fp _ fun y K4 N4 k14 nn hdat => ?_
    have off : ∀ a, N a = none → K' a ≠ none → N4 a = none := nn.off
    have hKD : K' D ≠ none := by rw [hy]; exact fun q => nomatch q
    have mK : Kp M K4 := hM.hi.tr k14
    have hUD : uni M N4 D = none := uni_no hMD (off D hND hKD)
    have up : ∀ {A : Hp}, A D = none → Kp A K4 → Kp A (upd K4 D (.lst (ys ++ [y]))) := fun {A} hA q b o e => by
      have hb : b ≠ D := fun z => by rw [z, hA] at e; cases e
      rw [upd_ne hb]
      exact q b o e
    refine ⟨ys, k14 _ _ hy, ?_, hlt, up hD (kpK.tr k14), ys ++ [y], uni M N4, upd_same, hUD, ⟨hM.lo.tr uni_l, up hUD (uni_in mK nn.hi), fun a h h1 => ?_⟩, ?_⟩
    · have : ys.length = i := by rw [hdy.len, List.length_map, List.length_take]; omega
      have := big_of hl
      omega
    · have hKa : K' a ≠ none := fun e => h1 (kpK.none e)
      exact uni_no (hM.off a h h1) (off a h hKa)
    · rw [List.take_add_one, hd, List.map_append]
      exact (hdy.kp uni_l).app (.cons (hdat.kp (uni_r mK nn.hi)) .nil)
  · have e : i = kvs.length := by omega
    refine .inl ⟨⟨kpK _ _ hq, by omega⟩, ?_⟩
    rw [e, List.take_length] at hdy
    refine hQ _ _ (upd M D (.lst ys)) kpK ⟨hM.lo.tr (.new hMD), fun b o e => ?_, fun b h h1 => ?_⟩ (.lst upd_same (hdy.kp (.new hMD)))
    · by_cases hb : b = D
      · subst hb
        rw [upd_same] at e
        rw [hy]
        exact e
      · rw [upd_ne hb] at e
        exact hM.hi _ _ e
    · have hb : b ≠ D := fun z => h1 (z ▸ hD)
      rw [upd_ne hb]
      exact hM.off b h h1
end
/-- a dict of one's own, locked and unlocked -/
theorem we_lock {X : Cx} {z : L2.St} {M H : Hp} {q : Addr} {kvs : List (List Key × V)} {e : Expr} {Q : VK} (kp : Kp M H) (ho : Own M H q (.dT kvs)) (R : V → Hp → Hp → Prop)
    (h : ∀ od (Q' : VK), (∀ v H2 N, Kp (upd H q (.frz od (.dT kvs))) H2 → Nw M (upd H q (.frz od (.dT kvs))) N H2 → R v N H2 → Q' v H2) → WE X z (upd H q (.frz od (.dT kvs))) e Q')
    (hQ : ∀ v H2 N, Kp H (upd H2 q (.dT kvs)) → Nw M H N (upd H2 q (.dT kvs)) → R v N H2 → Q v (upd H2 q (.dT kvs))) : WE X z H e Q :=
  .on (pe_lock eE) ⟨q, .dT kvs, ho.k, trivial, fun od => h od _ fun v H2 N p2 n hr => ⟨p2 q _ upd_same, hQ v H2 N (fun a o e => by
    by_cases hb : a = q
    · subst hb
      rw [ho.k] at e
      rw [upd_same]
      exact e
    · rw [upd_ne hb]
      exact p2 a o (by rw [upd_ne hb]; exact e)) ⟨n.lo, fun a o e => by
    have hb : a ≠ q := fun y => by
      rw [y, n.off q ho.m (by rw [upd_same]; exact fun q => nomatch q)] at e
      cases e
    rw [upd_ne hb]
    exact n.hi a o e, fun a h1 h2 => n.off a h1 (by
    by_cases hb : a = q
    · rw [hb, upd_same]; exact fun q => nomatch q
    · rw [upd_ne hb]; exact h2)⟩ hr⟩⟩
/-- what d[k] = v does to the entries -/
theorem putK_all {κ : Type} [DecidableEq κ] {P : κ × V → Prop} {kvs : List (κ × V)} {k : κ} {v : V} (h : ∀ e ∈ kvs, P e) (hk : P (k, v)) : ∀ e ∈ putK kvs k v, P e := by
  unfold putK
  split
  · intro e he
    obtain ⟨e0, h0, h1⟩ := List.mem_map.mp he
    split at h1
    · rename_i hk2
      rw [← h1, hk2]
      exact hk
    · rw [← h1]
      exact h e0 h0
  · intro e he
    rcases List.mem_append.mp he with h0 | h0
    · exact h e h0
    · rw [List.mem_singleton.mp h0]
      exact hk
theorem putK_len {κ : Type} [DecidableEq κ] {kvs : List (κ × V)} {k : κ} {v : V} : (putK kvs k v).length ≤ kvs.length + 1 ∧ 1 ≤ (putK kvs k v).length := by
  unfold putK
  split
  · rename_i h
    rw [List.length_map]
    refine ⟨by omega, ?_⟩
    cases kvs with
    | nil => simp at h
    | cons _ _ => rw [List.length_cons]; omega
  · rw [List.length_append, List.length_singleton]
    omega
theorem valV_mem {κ : Type} [DecidableEq κ] {kvs : List (κ × V)} {e : κ × V} (h : e ∈ kvs) : ∃ v, valV kvs e.1 = some v ∧ (e.1, v) ∈ kvs := by
  unfold valV
  cases hf : kvs.find? fun kv => decide (kv.1 = e.1) with
  | none =>
    have := List.find?_eq_none.mp hf e h
    simp at this
  | some e2 =>
    have h1 := List.find?_some hf
    have h2 := List.mem_of_find?_eq_some hf
    have h3 : e2.1 = e.1 := of_decide_eq_true h1
    exact ⟨e2.2, rfl, by rw [← h3]; exact h2⟩
section
variable {X : Cx} {z : L2.St} {N N' H H' : Hp} {j : Addr} {c k : Nat} {pos : Pos} {R : List PyData → Prop}
/-- a for over data that are drawn -/
theorem ws_forJ {tg iter : Expr} {body : List Stmt} {g : TG} {D : Ends} (fo : ∀ x, foldedSetIterable iter X.env x = pure x) (hp : PassesOwn (model X.prog X.w) X.A X.env X.xe) (hc : X.calm = true) (hi : JI X z N j c tg iter k R) (hg : PG X tg g) (kp : Kp N H) (h0 : N j = none) (jar : Jar H j c)
    (h : ∀ H2 N1 ds, Go j N H N1 H2 (c + k) → R ds → ∃ Pv : Nat → L2.St → Hp → Prop, Pv 0 z H2 ∧ (∀ i z K, Pv i z K → Kp N1 K) ∧ (∀ i d, ds[i]? = some d → ∀ z K, Pv i z K → ∀ v K' M, Kp K K' → Nw N1 K M K' → Dat M v d →
      g v z K' fun z2 K2 => WB X { D with nx := Pv (i + 1), ct := Pv (i + 1), bk := D.nx } z2 K2 body) ∧ ∀ z K, Pv ds.length z K → D.nx z K) : WS X D z H (.For tg iter body [] pos) := by
  obtain ⟨w, hw, hi⟩ := hi
  refine .on (ps_for hp hc hw hg eB fo) (hi H kp h0 jar _ fun J H2 N1 ds g1 it hR => ?_)
  obtain ⟨Pv, h0, hk, hs, hd⟩ := h H2 N1 ds g1 hR
  refine ⟨fun i m z K => m = ds.length - i ∧ i ≤ ds.length ∧ Pv i z K, ⟨ds.length, by omega, by omega, h0⟩, ?_⟩
  rintro i m z K ⟨rfl, hil, pv⟩
  have kN := hk i z K pv
  by_cases hlt : i < ds.length
  · have e : ds[i]? = some ds[i] := List.getElem?_eq_getElem hlt
    obtain ⟨hgo, hy⟩ := (it i K kN).1 _ e
    refine .inr ⟨hgo, Pv (i + 1), fun z' K' q => ⟨_, by omega, rfl, hlt, q⟩, fun v K' yl => ?_⟩
    obtain ⟨k1, M, n1, hd1⟩ := hy v K' yl
    exact hs i _ e z K pv v K' M k1 n1 hd1
  · have e : i = ds.length := by omega
    exact .inl ⟨(it i K kN).2 e, hd z K (e ▸ pv)⟩
end
section
variable {X : Cx} {z : L2.St} {N H : Hp} {j : Addr} {c k : Nat} {e : Expr} {es : List Expr} {d : PyData} {P : PyData → Prop} {R : List PyData → Prop} {Q : VK}
theorem ja_pre (h : DE X z N e d) (hr : ∀ M, Kp N M → M j = none → JA X z M j c es k R) (hs : starEach (e :: es) X.env = (false, eval e X.env) :: starEach es X.env := by rfl) : JA X z N j c (e :: es) k (fun ds => ∃ r, ds = d :: r ∧ R r) := fun H p h0 q Q hQ =>
  wa_cons (h H p _ fun v H1 M p1 n hv => hr M n.lo (n.off j h0 q.some) H1 n.hi (n.off j h0 q.some) ((Go.of p1 n q).jar) _ fun vs H2 M2 ds g hvs hR =>
    hQ (v :: vs) H2 M2 (d :: ds) ((Go.of p1 n q).tr g) (.cons (hv.kp g.lo) hvs) ⟨ds, rfl, hR⟩) hs
theorem ja_one (h : JE X z N j c e k P) (hs : starEach [e] X.env = (false, eval e X.env) :: starEach [] X.env := by rfl) : JA X z N j c [e] k (fun ds => ∃ d, ds = [d] ∧ P d) := fun H p h0 q Q hQ =>
  wa_cons (h H p h0 q _ fun v H1 M d g hv hp => wa_nil (hQ [v] H1 M [d] g (.cons hv .nil) ⟨d, rfl, hp⟩)) hs
end
section
variable {X : Cx} {D : Ends} {z : L2.St} {H : Hp} {e : Expr} {rest : List Stmt} {pos pos' : Pos} {x : Str}
theorem wb_set (i : Nat) (hN : X.N.Nodup) (h : WE X z H e fun v H1 => WB X D (z.set i (some v)) H1 rest) (hi : X.N[i]? = some x := by rfl) (hx : Loc X.env.scope x := by first | exact Or.inl rfl | exact Or.inr rfl) (hs : swapsWith e (some (.Name x pos')) pos.line X.env = pure false := by rfl)
    (hf : X.fn x = true ∨ X.env.scope.names.lookup x = some .local := by first | exact .inl rfl | exact .inr rfl) : WB X D z H (.Assign [.Name x pos'] e pos :: rest) := .on (pss_cons (ps_set hN hi hx eE hs hf) eB) h
end
end Fr

set_option Elab.async false
set_option linter.all false
set_option maxRecDepth 100000
set_option maxHeartbeats 1000000
set_option autoImplicit false
namespace Fr
open PySem PySem.Spec PyProof.Rows L2 HT

/-! a tuple turned about -/
theorem turned_adj (n : Nat) : Builtin.Slice.sliceAdjust none none (-1) (n : Int) = ((n : Int) - 1, -1) := by
  unfold Builtin.Slice.sliceAdjust
  simp
theorem turned_cnt (n : Nat) : Builtin.Slice.slicePlaces ((n : Int) - 1) (-1) (-1) = n := by
  unfold Builtin.Slice.slicePlaces
  simp only [show ¬ ((-1 : Int) > 0) by omega, if_false]
  split
  · rw [show (- (-1 : Int)) = 1 by omega, Int.ediv_one]
    omega
  · omega
theorem fm_some {α β : Type} {f : α → Option β} {g : α → β} : ∀ {l : List α}, (∀ x ∈ l, f x = some (g x)) → l.filterMap f = l.map g
  | [], _ => rfl
  | x :: l, h => by
    rw [List.filterMap_cons_some (h x List.mem_cons_self), fm_some fun y hy => h y (List.mem_cons_of_mem _ hy), List.map_cons]
theorem turned_pick (xs : List Value) : ((List.range xs.length).filterMap fun (m : Nat) => xs.toArray[(((xs.length : Int) - 1) + (m : Int) * (-1)).toNat]?) = xs.reverse := by
  rw [fm_some (g := fun m => xs.getD (xs.length - 1 - m) .none) fun m hm => ?_]
  · apply List.ext_getElem?
    intro i
    rw [List.getElem?_map]
    by_cases hi : i < xs.length
    · rw [List.getElem?_range hi, List.getElem?_reverse hi]
      have hl : xs.length - 1 - i < xs.length := by omega
      show some (xs.getD (xs.length - 1 - i) .none) = _
      rw [List.getD_eq_getElem?_getD, List.getElem?_eq_getElem hl]
      rfl
    · rw [List.getElem?_eq_none (by rw [List.length_range]; omega), List.getElem?_eq_none (by rw [List.length_reverse]; omega)]
      rfl
  · have hm' := List.mem_range.mp hm
    have e : (((xs.length : Int) - 1) + (m : Int) * (-1)).toNat = xs.length - 1 - m := by omega
    have hl : xs.length - 1 - m < xs.length := by omega
    rw [e, List.getElem?_toArray, List.getD_eq_getElem?_getD, List.getElem?_eq_getElem hl]
    rfl
section
variable {prog : Program} {w : World} {A : Around} {E : Value → Shared → Prop} {s : Shared}
theorem turned_app {sl : Addr} {a b c : Value} {n : Nat} {Q : Int × Int × Nat → Shared → Prop} (hS : s.heap.IsSliceOf sl a b c) (pa : IsPart a none) (pb : IsPart b none) (pc : IsPart c (some (-1))) (h : Q ((n : Int) - 1, -1, n) s) :
    wpAny (model prog w) A (Builtin.Slice.sliceApplied (.ref sl) (pure (n : Int))) Q E s := by
  obtain ⟨o1, ho1, hc1, hd1⟩ := id hS
  unfold Builtin.Slice.sliceApplied Builtin.Slice.sliceFields
  refine wpAny_bind (wpAny_bind (wpAny_field ho1 hd1 (x := a) rfl (wpAny_bind (wpAny_field ho1 hd1 (x := b) rfl (wpAny_bind (wpAny_field ho1 hd1 (x := c) rfl (wpAny_pure ?_)))))))
  refine wpAny_bind (slicePart_ pc ?_)
  show wpAny _ _ (if ((-1 : Int) == 0) = true then _ else _) _ _ s
  rw [if_neg (by decide)]
  refine wpAny_bind (slicePart_ pa (wpAny_bind (slicePart_ pb (wpAny_bind (wpAny_pure ?_)))))
  show wpAny _ _ (match Builtin.Slice.sliceAdjust none none (-1) (n : Int) with | (lo, hi) => pure (lo, (-1 : Int), Builtin.Slice.slicePlaces lo hi (-1))) _ _ s
  rw [turned_adj]
  show wpAny _ _ (pure ((n : Int) - 1, (-1 : Int), Builtin.Slice.slicePlaces ((n : Int) - 1) (-1) (-1))) _ _ s
  rw [turned_cnt]
  exact wpAny_pure h
theorem turned_get {t sl : Addr} {xs : List Value} {a b c : Value} {Q : Value → Shared → Prop} (hT : IsTup s.heap t xs.toArray) (hS : s.heap.IsSliceOf sl a b c) (pa : IsPart a none) (pb : IsPart b none) (pc : IsPart c (some (-1))) (hz : xs.length ≤ sizeLine)
    (h : Q (.ref s.heap.objs.size) { s with heap := s.heap.push { cls := .type "tuple", data := .seq xs.reverse.toArray } }) : wpAny (model prog w) A (getItem (.ref t) (.ref sl)) Q E s := by
  have hok : sizeOk (.seq xs.reverse.toArray) := by
    show xs.reverse.toArray.size ≤ sizeLine
    rw [List.size_toArray, List.length_reverse]
    exact hz
  obtain ⟨o1, ho1, hc1, hd1⟩ := id hS
  have hTy : s.TypeIs (.ref sl) "slice" := ⟨o1, ho1, hc1⟩
  unfold getItem
  try (with_reducible refine wpAny_holding ?_)
  first | (refine wpAny_bind (wpAny_pure ?_)) | skip
  refine wpAny_bind (wpAny_sequenceKey hT.typeIs (by decide) ?_)
  refine wpAny_bind (wpAny_callSpecial?_slot (name := Str.ofString "__getitem__") hT.typeIs PyProof.Rows.slot_tuple_getitem (wpAny_call_entry PyProof.Rows.slot_tuple_getitem hT.typeIs entry_tuple_getitem ?_ (args_tuple_getitem _ _)))
  show wpAny _ A.in1 (Builtin.Tuple.tupleItemsOf (.ref t) >>= _) _ _ s
  refine wpAny_bind (tupleItemsOf_ hT ?_)
  refine wpAny_bind (wpAny_typeOf hTy ?_)
  rw [if_pos (by decide)]
  have hn : xs.toArray.size = xs.length := List.size_toArray
  rw [hn]
  refine wpAny_bind (turned_app hS pa pb pc ?_)
  have hno : ¬ ((((xs.length : Int) - 1) == 0 && (-1 : Int) == 1 && xs.length == xs.length) = true) := by simp
  show wpAny _ _ (if (((xs.length : Int) - 1) == 0 && (-1 : Int) == 1 && xs.length == xs.length) = true then _ else _) _ _ s
  rw [if_neg hno, turned_pick]
  first
    | exact wpAny_bind (wpAny_bind (m := Builtin.Tuple.tupleExact _) (wpAny_newObj_type (wpAny_pure (wpAny_pure ⟨_, rfl, wpAny_pure h⟩)) hok))
    | exact wpAny_bind (m := Builtin.Tuple.tupleExact _) (wpAny_newObj_type (wpAny_pure ⟨_, rfl, wpAny_pure h⟩) hok)
    | exact wpAny_bind (m := Builtin.Tuple.tupleExact _) (wpAny_newObj_type (wpAny_bind (wpAny_pure (wpAny_pure ⟨_, rfl, wpAny_pure h⟩))) hok)
end
section
variable {X : Cx}
/-- t[::-1] -/
def tRevT (K : PySem.W.Frag) (te : TE) : TE := fun σ H Q => te σ H fun x H1 => ∃ a xs, x = .ref a ∧ SqT K H1 a xs ∧ ∀ p, H1 p = none → Q (.ref p) (upd H1 p (.tup xs.reverse))
theorem pe_revT {e : Expr} {te : TE} {k : Nat} {p1 p2 p3 pos : Pos} (he : PE X e te) : PE X (.Subscript e (.Slice none none (some (.UnaryOp .USub (.Constant (.int 1) k p1) p2)) p3) pos) (tRevT X.K te) := by
  refine ⟨fun pins s σ H Q I h => Subscript_ (thn (he.run pins s σ H _ I h) fun v s1 ⟨x, H1, I1, r1, q1⟩ => ?_)⟩
  obtain ⟨a, xs, ex, hx, q⟩ := q1
  subst ex
  cases r1
  have step : PO X (some (.UnaryOp .USub (.Constant (.int 1) k p1) p2)) (tPart (tUn (rU fun i => .int (-i)) (tC (.int 1)))) := po_some (pe_un un_neg pe_int)
  refine wpAny_Slice (thn (po_none.run pins s1 σ H1 (fun o G => o = none ∧ G = H1) I1 ⟨rfl, rfl⟩) fun va s2 ⟨lo, G2, I2, pa, e1, e2⟩ => ?_)
  subst e1 e2
  refine thn (po_none.run pins s2 σ G2 (fun o G => o = none ∧ G = G2) I2 ⟨rfl, rfl⟩) fun vb s3 ⟨up, G3, I3, pb, e3, e4⟩ => ?_
  subst e3 e4
  refine thn (step.run pins s3 σ G3 (fun o G => o = some (-1) ∧ G = G3) I3 ⟨1, rfl, -1, rfl, rfl, rfl⟩) fun vc s4 ⟨st, G4, I4, pc, e5, e6⟩ => ?_
  subst e5 e6
  have J : Inv X pins σ G4 { s4 with heap := s4.heap.push { cls := .type "slice", data := .fields #[va, vb, vc] } } := I4.kept (t' := s4.toks) fun b ob q => Heap.get?_push_of_some _ q
  obtain ⟨its, r, hT, hz⟩ := J.tuple hx
  show wpAny (model X.prog X.w) X.A (subscriptTail e (.Slice none none (some (.UnaryOp .USub (.Constant (.int 1) k p1) p2)) p3) (.ref a) (.ref s4.heap.objs.size)) (EP X pins σ Q) X.xe { s4 with heap := s4.heap.push { cls := .type "slice", data := .fields #[va, vb, vc] } }
  refine tail_any (ops := [.ref a, .ref s4.heap.objs.size]) hT.typeIs (PyProof.Rows.slot_tuple_getitem.lookup) ?_ (by with_unfolding_all rfl)
  refine turned_get hT (Heap.IsSliceOf.new _ va vb vc) pa pb pc (by rw [← r.length]; exact hz) ?_
  refine ⟨.ref _, _, J.laid (t' := s4.toks) (o := .tup xs.reverse) (fun b ob q => Heap.get?_push_of_some _ q) (Nat.le_refl _) ?_, rfl, q _ (J.hok.fresh (Nat.le_refl _))⟩
  exact ⟨by rw [List.length_reverse]; exact hz, _, r.reverse, IsTup.new _ _⟩
end
end Fr

set_option Elab.async false
set_option linter.all false
set_option maxRecDepth 100000
set_option maxHeartbeats 1000000
set_option autoImplicit false
namespace Fr
open PySem PySem.Spec PyProof.Rows L2

/-! how long it is when shown -/
mutual
def plain : PyData → Bool
  | .none => true
  | .bool _ => true
  | .int i => decide ((toString i : Str).length ≤ 24) && decide (i.natAbs.log2 < 1900)
  | .str x => x.cps.toList.all fun c => decide (c < 16 ^ 8)
  | .list xs => plainL xs
  | .tuple xs => plainL xs
  | .dict kvs => plainK kvs
def plainL : List PyData → Bool
  | [] => true
  | x :: xs => plain x && plainL xs
def plainK : List (PyData × PyData) → Bool
  | [] => true
  | (a, b) :: r => plain a && plain b && plainK r
end
theorem textFrom_le : ∀ (ts : List Str) (k : Nat) (acc : Str), (textFrom k acc ts).length ≤ acc.length + piled ts
  | [], k, acc => by rw [piled_nil]; exact Nat.le_refl _
  | t :: r, k, acc => by
    have ih := textFrom_le r (k + 1) (acc ++ (if k > 0 then ", " else "" : String) ++ t)
    rw [piled_cons]
    have e : ((if k > 0 then ", " else "" : String) : Str).length ≤ 2 := by split <;> decide
    rw [strLen_append, strLen_append] at ih
    show (textFrom (k + 1) (acc ++ (if k > 0 then ", " else "" : String) ++ t) r).length ≤ _
    omega
theorem listText_le (ts : List Str) : (listText ts).length ≤ 2 + piled ts := by
  unfold listText
  rw [strLen_append]
  have h := textFrom_le ts 0 "["
  have e1 : (("[" : String) : Str).length = 1 := rfl
  have e2 : (("]" : String) : Str).length = 1 := rfl
  rw [e1] at h
  rw [e2]
  omega
theorem join_le (ts : List Str) : (Str.join ", " ts).length ≤ piled ts := by
  cases ts with
  | nil => decide
  | cons x r =>
    have := join_length_add (x :: r) (fun h => nomatch h)
    omega
theorem tupleText_le (ts : List Str) : (tupleText ts).length ≤ 3 + piled ts := by
  unfold tupleText
  rw [strLen_append, strLen_append]
  have h := join_le ts
  have e1 : (("(" : String) : Str).length = 1 := rfl
  have e2 : ((if ts.length == 1 then ",)" else ")" : String) : Str).length ≤ 2 := by split <;> decide
  rw [e1]
  omega
theorem dictText_le (ts : List Str) : (dictText ts).length ≤ 2 + piled ts := by
  unfold dictText
  rw [strLen_append, strLen_append]
  have h := join_le ts
  have e1 : (("{" : String) : Str).length = 1 := rfl
  have e2 : (("}" : String) : Str).length = 1 := rfl
  rw [e1, e2]
  omega
mutual
theorem shown_le : ∀ (d : PyData), plain d = true → d.shown.length ≤ 6 * wt d ∧ d.showable = true
  | .none, _ => ⟨by decide, rfl⟩
  | .bool b, _ => by cases b <;> exact ⟨by decide, rfl⟩
  | .int i, h => by
    have h' : (decide ((toString i : Str).length ≤ 24) && decide (i.natAbs.log2 < 1900)) = true := by rw [← h]; rw [plain]
    rw [Bool.and_eq_true] at h'
    have h1 := of_decide_eq_true h'.1
    have h2 := of_decide_eq_true h'.2
    refine ⟨?_, ?_⟩
    · rw [wt, if_pos h2]
      have e : (PyData.int i).shown = (toString i : Str) := by rw [PyData.shown]
      rw [e]
      omega
    · rw [PyData.showable]
      exact decide_eq_true (by omega)
  | .str x, h => by
    have h' : (x.cps.toList.all fun c => decide (c < 16 ^ 8)) = true := by rw [← h]; rw [plain]
    have h1 := PySem.StrLaws.reprText_len x fun c hc => of_decide_eq_true (List.all_eq_true.mp h' c hc)
    refine ⟨?_, by rw [PyData.showable]⟩
    rw [wt, PyData.shown]
    omega
  | .list xs, h => by
    have h' : plainL xs = true := by rw [← h]; rw [plain]
    obtain ⟨h1, h2⟩ := shownL_le xs h'
    refine ⟨?_, by rw [PyData.showable]; exact h2⟩
    rw [wt, PyData.shown]
    have := listText_le (PyData.shownAll xs)
    omega
  | .tuple xs, h => by
    have h' : plainL xs = true := by rw [← h]; rw [plain]
    obtain ⟨h1, h2⟩ := shownL_le xs h'
    refine ⟨?_, by rw [PyData.showable]; exact h2⟩
    rw [wt, PyData.shown]
    have := tupleText_le (PyData.shownAll xs)
    omega
  | .dict kvs, h => by
    have h' : plainK kvs = true := by rw [← h]; rw [plain]
    obtain ⟨h1, h2⟩ := shownK_le kvs h'
    refine ⟨?_, by rw [PyData.showable]; exact h2⟩
    rw [wt, PyData.shown]
    have := dictText_le (PyData.shownKv kvs)
    omega
theorem shownL_le : ∀ (xs : List PyData), plainL xs = true → piled (PyData.shownAll xs) ≤ 6 * wtL xs ∧ PyData.showableAll xs = true
  | [], _ => ⟨by rw [PyData.shownAll, piled_nil]; omega, by rw [PyData.showableAll]⟩
  | x :: xs, h => by
    have h' : (plain x && plainL xs) = true := by rw [← h]; rw [plainL]
    rw [Bool.and_eq_true] at h'
    obtain ⟨h1, h2⟩ := shown_le x h'.1
    obtain ⟨h3, h4⟩ := shownL_le xs h'.2
    refine ⟨?_, by rw [PyData.showableAll, h2, h4]; rfl⟩
    rw [PyData.shownAll, piled_cons, wtL]
    omega
theorem shownK_le : ∀ (xs : List (PyData × PyData)), plainK xs = true → piled (PyData.shownKv xs) ≤ 6 * wtK xs ∧ PyData.showableKv xs = true
  | [], _ => ⟨by rw [PyData.shownKv, piled_nil]; omega, by rw [PyData.showableKv]⟩
  | (a, b) :: r, h => by
    have h' : (plain a && plain b && plainK r) = true := by rw [← h]; rw [plainK]
    rw [Bool.and_eq_true, Bool.and_eq_true] at h'
    obtain ⟨h1, h2⟩ := shown_le a h'.1.1
    obtain ⟨h3, h4⟩ := shown_le b h'.1.2
    obtain ⟨h5, h6⟩ := shownK_le r h'.2
    refine ⟨?_, by rw [PyData.showableKv, h2, h4, h6]; rfl⟩
    rw [PyData.shownKv, piled_cons, wtK, strLen_append, strLen_append]
    have e : ((": " : String) : Str).length = 2 := rfl
    rw [e]
    omega
end
end Fr

set_option Elab.async false
set_option linter.all false
set_option maxRecDepth 100000
set_option maxHeartbeats 1000000
set_option autoImplicit false
namespace Fr
open PySem PySem.Spec PyProof.Rows L2

/-! sizes together -/
structure Sz (n m : Nat) (d : PyData) : Prop where
  p : plain d = true
  w : wt d ≤ n
  d : d.depth ≤ m
structure SzL (n m : Nat) (xs : List PyData) : Prop where
  p : plainL xs = true
  w : wtL xs ≤ n
  d : PyData.depthAll xs ≤ m
theorem plainL_iff : ∀ {xs : List PyData}, plainL xs = true ↔ ∀ x ∈ xs, plain x = true
  | [] => ⟨(fun _ x h => nomatch h), fun _ => by rw [plainL]⟩
  | y :: ys => by
    rw [plainL, Bool.and_eq_true, plainL_iff (xs := ys)]
    exact ⟨fun h x hx => by
      rcases List.mem_cons.mp hx with e | e
      · exact e ▸ h.1
      · exact h.2 x e, fun h => ⟨h y List.mem_cons_self, fun x hx => h x (List.mem_cons_of_mem _ hx)⟩⟩
theorem depthAll_iff {m : Nat} : ∀ {xs : List PyData}, PyData.depthAll xs ≤ m ↔ ∀ x ∈ xs, x.depth ≤ m
  | [] => ⟨(fun _ x h => nomatch h), fun _ => by rw [PyData.depthAll]; omega⟩
  | y :: ys => by
    rw [PyData.depthAll, Nat.max_le, depthAll_iff (xs := ys)]
    exact ⟨fun h x hx => by
      rcases List.mem_cons.mp hx with e | e
      · exact e ▸ h.1
      · exact h.2 x e, fun h => ⟨h y List.mem_cons_self, fun x hx => h x (List.mem_cons_of_mem _ hx)⟩⟩
theorem wtL_rev : ∀ xs : List PyData, wtL xs.reverse = wtL xs
  | [] => rfl
  | x :: xs => by rw [List.reverse_cons, wtL_app, wtL_rev xs, wtL, wtL, wtL]; omega
section
variable {n n' m m' : Nat} {xs ys : List PyData} {d : PyData}
theorem Sz.mono (h : Sz n m d) (a : n ≤ n') (b : m ≤ m') : Sz n' m' d := ⟨h.p, by have := h.w; omega, by have := h.d; omega⟩
theorem SzL.mono (h : SzL n m xs) (a : n ≤ n') (b : m ≤ m') : SzL n' m' xs := ⟨h.p, by have := h.w; omega, by have := h.d; omega⟩
theorem SzL.app (h : SzL n m xs) (h' : SzL n' m ys) : SzL (n + n') m (xs ++ ys) := ⟨plainL_iff.mpr fun x hx => (List.mem_append.mp hx).elim (plainL_iff.mp h.p x) (plainL_iff.mp h'.p x), by rw [wtL_app]; have := h.w; have := h'.w; omega,
  depthAll_iff.mpr fun x hx => (List.mem_append.mp hx).elim (depthAll_iff.mp h.d x) (depthAll_iff.mp h'.d x)⟩
theorem SzL.cut (h : SzL n m xs) (k l : Option Int) : SzL n m (cutD xs k l) := ⟨plainL_iff.mpr fun x hx => plainL_iff.mp h.p x (List.mem_of_mem_drop (List.mem_of_mem_take hx)), Nat.le_trans (wtL_cut xs k l) h.w, depthAll_iff.mpr fun x hx => depthAll_iff.mp h.d x (List.mem_of_mem_drop (List.mem_of_mem_take hx))⟩
theorem SzL.rev (h : SzL n m xs) : SzL n m xs.reverse := ⟨plainL_iff.mpr fun x hx => plainL_iff.mp h.p x (List.mem_reverse.mp hx), by rw [wtL_rev]; exact h.w, depthAll_iff.mpr fun x hx => depthAll_iff.mp h.d x (List.mem_reverse.mp hx)⟩
theorem SzL.one (h : Sz n m d) : SzL (n + 4) m [d] := ⟨plainL_iff.mpr fun x hx => List.mem_singleton.mp hx ▸ h.p, by rw [wtL, wtL]; have := h.w; omega, depthAll_iff.mpr fun x hx => List.mem_singleton.mp hx ▸ h.d⟩
theorem SzL.nil : SzL 0 m [] := ⟨by rw [plainL], by rw [wtL]; omega, by rw [PyData.depthAll]; omega⟩
theorem SzL.get (h : SzL n m xs) (hd : d ∈ xs) : Sz n m d := ⟨plainL_iff.mp h.p d hd, by have := wt_mem hd; have := h.w; omega, depthAll_iff.mp h.d d hd⟩
theorem Sz.tup (h : SzL n m xs) : Sz (n + 4) (m + 1) (.tuple xs) := ⟨by rw [plain]; exact h.p, by rw [wt]; have := h.w; omega, by rw [PyData.depth]; have := h.d; omega⟩
theorem Sz.lst (h : SzL n m xs) : Sz (n + 4) (m + 1) (.list xs) := ⟨by rw [plain]; exact h.p, by rw [wt]; have := h.w; omega, by rw [PyData.depth]; have := h.d; omega⟩
theorem Sz.inner (h : Sz n (m + 1) (.tuple xs)) : SzL n m xs := ⟨by have := h.p; rwa [plain] at this, by have := h.w; rw [wt] at this; omega, by have := h.d; rw [PyData.depth] at this; omega⟩
theorem Sz.str {x : Str} (h : (x.cps.toList.all fun c => decide (c < 16 ^ 8)) = true) (hl : x.length ≤ 10) : Sz 130 m (.str x) := ⟨by rw [plain]; exact h, by rw [wt]; omega, by rw [PyData.depth]; omega⟩
theorem Sz.int {i : Int} (h : (toString i : Str).length ≤ 24) (hl : i.natAbs.log2 ≤ 100) : Sz 130 m (.int i) := ⟨by rw [plain, decide_eq_true h, decide_eq_true (by omega)]; rfl, by rw [wt, if_pos (by omega)]; omega, by rw [PyData.depth]; omega⟩
theorem Sz.bool {b : Bool} : Sz 130 m (.bool b) := ⟨by rw [plain], by rw [wt]; omega, by rw [PyData.depth]; omega⟩
theorem Sz.none : Sz 130 m .none := ⟨by rw [plain], by rw [wt]; omega, by rw [PyData.depth]; omega⟩
end
end Fr

set_option Elab.async false
set_option linter.all false
set_option maxRecDepth 100000
set_option maxHeartbeats 1000000
set_option autoImplicit false
namespace Fr
open PySem PySem.Spec PyProof.Rows L2

/-! repr of a datum -/
def SysD (h : Heap) : Prop := ∃ o, h.get? sysModules = some o
section
variable {X : Cx} {pins : List (Addr × Obj)} {z : L2.St} {H : Hp} {s : Shared}
theorem keys_bare (P : Program) (w : World) (h : Heap) : ∀ (es : List DictEntry) (kvs : List (Key × Value)), Pairs (mixKind P w) es kvs → ReadsAll h (es.map (·.key)) (kvs.map fun p => keyD p.1) []
  | _, _, .nil => .nil
  | _, _, .cons (e := e) (kv := kv) hk _ ht => by
    have hr := keys_bare P w h _ _ ht
    rcases keyIs_shape (show keyIs kv.1 e.key = true from hk) with ⟨i, t, e1, e2⟩ | ⟨x, t, e1, e2⟩
    · rw [List.map_cons, List.map_cons, e1, e2]
      exact .cons (as := []) (bs := []) (.int i t) hr
    · rw [List.map_cons, List.map_cons, e1, e2]
      exact .cons (as := []) (bs := []) (.str x t) hr
mutual
theorem Dat.seen (I : Inv X pins z H s) (hs : H sysModules = none) : ∀ {v : V} {d : PyData} {u : Value}, Dat H v d → RelV v u → ∃ as, Reads s.heap u d as ∧ sysModules ∉ as
  | _, _, _, .non, r => by cases r; exact ⟨_, .none, fun h => nomatch h⟩
  | _, _, _, .bl b, r => by cases r; exact ⟨_, .bool b, fun h => nomatch h⟩
  | _, _, _, .int i, r => by obtain ⟨t, rfl⟩ := r; exact ⟨_, .int i t, fun h => nomatch h⟩
  | _, _, _, .str x, r => by obtain ⟨t, rfl⟩ := r; exact ⟨_, .str x t, fun h => nomatch h⟩
  | _, _, _, .lst (a := a) h l, r => by
    cases r
    obtain ⟨_, its, n, rv, ho⟩ := I.hok a _ h
    obtain ⟨as, hr, hn⟩ := DatL.seen I hs l rv
    refine ⟨_, .list ho rfl rfl hr, fun m => ?_⟩
    rcases List.mem_cons.mp m with e | m
    · rw [← e, hs] at h
      cases h
    · exact hn m
  | _, _, _, .tup (a := a) h l, r => by
    cases r
    obtain ⟨_, its, rv, o, ho, hc, n, hd⟩ := I.hok a _ h
    obtain ⟨as, hr, hn⟩ := DatL.seen I hs l rv
    exact ⟨_, .tuple ho hc hd hr, hn⟩
  | _, _, _, .dct (a := a) (kvs := kvs) (ks := ks) (ds := ds) h k l, r => by
    cases r
    obtain ⟨_, hne, vs, kv, o, es, ep, ho, hx, hd, _, hp, _⟩ := I.hok a _ h
    have ha := keys_bare X.prog X.w s.heap _ _ hp
    obtain ⟨bs, hb, hn⟩ := DatL.seen I hs l (kv_vals kv)
    have hl : ks.length = ds.length := by
      have := l.len
      rw [← k, List.length_map, ← this, List.length_map]
    refine ⟨_, .dict ho hx.1 hd (as := []) (bs := bs) ?_ ?_, fun m => ?_⟩
    · rw [List.map_fst_zip (Nat.le_of_eq hl), ← k, ← kv_keys kv]
      exact ha
    · rw [List.map_snd_zip (Nat.le_of_eq hl.symm), pairs_vals hp]
      exact hb
    · rcases List.mem_append.mp m with m | m
      · rw [List.mem_singleton] at m
        rw [← m] at hne
        exact absurd hne (by decide)
      · exact hn m
theorem DatL.seen (I : Inv X pins z H s) (hs : H sysModules = none) : ∀ {vs : List V} {ds : List PyData} {us : List Value}, DatL H vs ds → Vals vs us → ∃ as, ReadsAll s.heap us ds as ∧ sysModules ∉ as
  | _, _, _, .nil, r => by cases r; exact ⟨_, .nil, fun h => nomatch h⟩
  | _, _, _, .cons a b, r => by
    cases r with
    | cons r1 r2 =>
      obtain ⟨as, q1, n1⟩ := Dat.seen I hs a r1
      obtain ⟨bs, q2, n2⟩ := DatL.seen I hs b r2
      exact ⟨_, .cons q1 q2, fun m => (List.mem_append.mp m).elim n1 n2⟩
end
/-- repr of a datum -/
def rReprD : List V → Hp → VK → Prop := fun vs H Q => ∃ (v : V) (d : PyData) (n : Nat), vs = [v] ∧ Dat H v d ∧ Sz n 60 d ∧ n ≤ 1000000 ∧ Q (.str d.shown) H
theorem cr_reprD (hg : X.A.guards = some []) (hu : X.A.units + 64 < cLine) (hb : SysD X.base) : CallR X (.builtin "repr") rReprD := by
  intro pins s σ H vs us Q I r h
  obtain ⟨v, d, n, rfl, hd, sz, hn, q⟩ := h
  obtain ⟨u, rfl, ru⟩ := vals1 r
  have hsys : H sysModules = none := by
    obtain ⟨o, h1⟩ := hb
    exact (I.env0.bs _ _ h1).2
  obtain ⟨l1, l2⟩ := shown_le d sz.p
  have l3 := sz.w
  have l4 := sz.d
  have box : ∀ a, v = .ref a → wpAny (model X.prog X.w) X.A (call (.builtin "repr") [u]) (EP X pins σ Q) X.xe s := by
    rintro a rfl
    obtain rfl : u = Value.ref a := ru
    obtain ⟨as, r1, r2⟩ := hd.seen I hsys (show RelV (.ref a) (.ref a) from rfl)
    refine PySem.repr_of_reads' (h₀ := s.heap) r1 l2 (fun _ => r2) hg (by omega) (fun _ _ e => e) (fun h' t tk hk => ?_) (by rw [sizeLine_eq]; omega)
    exact ⟨.str d.shown, H, I.kept (t' := tk) hk, ⟨t, rfl⟩, q⟩
  cases hd with
  | lst _ _ => exact box _ rfl
  | tup _ _ => exact box _ rfl
  | dct _ _ _ => exact box _ rfl
  | non =>
    cases ru
    refine PySem.P.repr_of_none ⟨.str "None", H, I.tok _, ⟨_, rfl⟩, ?_⟩
    rw [PyData.shown] at q
    exact q
  | bl b =>
    cases ru
    refine PySem.P.repr_of_bool ⟨.str (if b then "True" else "False"), H, I.tok _, ⟨_, rfl⟩, ?_⟩
    rw [PyData.shown] at q
    exact q
  | int i =>
    obtain ⟨t, rfl⟩ := ru
    rw [PyData.showable] at l2
    refine PySem.P.repr_of_int (of_decide_eq_true l2) ⟨.str (toString i), H, I.tok _, ⟨_, rfl⟩, ?_⟩
    rw [PyData.shown] at q
    exact q
  | str x =>
    obtain ⟨t, rfl⟩ := ru
    rw [PyData.shown] at l1
    refine PySem.P.repr_of_str ⟨.str (reprText x), H, I.tok _, ⟨_, rfl⟩, ?_⟩ (by rw [sizeLine_eq]; omega)
    rw [PyData.shown] at q
    exact q
end
section
variable {X : Cx} {z : L2.St} {H : Hp} {pos p : Pos} {e : Expr} {d : PyData} {n : Nat}
theorem de_repr (he : DE X z H e d) (sz : Sz n 60 d) (hn : n ≤ 1000000) (hG : X.A.guards = some []) (hu : X.A.units + 64 < cLine) (hb : SysD X.base) (hm : X.mg "repr" = none) (hg : Gl X "repr" := by rfl) (hv : bootBuiltins "repr" = some (.builtin "repr") := by decide +kernel)
    (s1 : starEach [e] X.env = (false, eval e X.env) :: starEach [] X.env := by rfl) (s3 : (backTo pos (starEach [] X.env)).any (·.1) = false := by rfl) : DE X z H (.Call (.Name "repr" p) [e] [] pos) (.str d.shown) := fun H1 p Q q =>
  .on (pe_callB (cr_reprD hG hu hb) hg hm hv (pa_cons eE pa_nil s1) (by decide) (by decide) s1 s3) (he H1 p _ fun v H2 N p2 k hv => ⟨v, d, n, rfl, hv.kp k.hi, sz, hn, q _ _ N p2 k (.str _)⟩)
end
end Fr

set_option Elab.async false
set_option linter.all false
set_option maxRecDepth 100000
set_option maxHeartbeats 1000000
set_option autoImplicit false
namespace Fr
open PySem PySem.Spec PyProof.Rows L2

/-! == and != of data without dicts -/
def rEqX (neg : Bool) : R2 := fun x y H Q => ∃ da db, Dat H x da ∧ Dat H y db ∧ da.plain = true ∧ db.plain = true ∧ min da.depth db.depth ≤ 60 ∧ Q (.bl (PyData.eqv da db != neg)) H
section
variable {X : Cx} {da db : PyData}
theorem op_eqX (hu : X.A.units + 64 < cLine) : OpR X (compareOp .Eq) (rEqX false) := by
  intro pins s σ H x y v u Q I rx ry h
  obtain ⟨da, db, hx, hy, pa, pb, hd, q⟩ := h
  obtain ⟨as, r1⟩ := hx.reads I rx
  obtain ⟨bs, r2⟩ := hy.reads I ry
  rw [Bool.bne_false] at q
  exact PySem.SeqAt.eq_plain r1 r2 pa pb (by omega) ⟨.bl _, H, I, rfl, q⟩
theorem op_neX (hu : X.A.units + 64 < cLine) : OpR X (compareOp .NotEq) (rEqX true) := by
  intro pins s σ H x y v u Q I rx ry h
  obtain ⟨da, db, hx, hy, pa, pb, hd, q⟩ := h
  obtain ⟨as, r1⟩ := hx.reads I rx
  obtain ⟨bs, r2⟩ := hy.reads I ry
  rw [Bool.bne_true] at q
  exact PySem.SeqAt.ne_plain r1 r2 pa pb (by omega) ⟨.bl _, H, I, rfl, q⟩
theorem rd_eqX {neg : Bool} (pa : da.plain = true) (pb : db.plain = true) (hd : min da.depth db.depth ≤ 60) : RD (rEqX neg) da db (.bool (PyData.eqv da db != neg)) := fun x y K N Q p hx hy q => ⟨da, db, hx.kp p, hy.kp p, pa, pb, hd, q _ _ N .rfl (.rfl p) (.bl _)⟩
end
end Fr

set_option Elab.async false
set_option linter.all false
set_option maxRecDepth 100000
set_option maxHeartbeats 1000000
set_option autoImplicit false
namespace Fr
open PySem PySem.Spec PyProof.Rows L2

/-! a call by keywords alone -/
section
variable {X : Cx} {z : L2.St} {H : Hp} {CX : CXT} {k : Nat} {f : Addr} {fd : FuncData} {ps ks : List Str} {sp : Sp} {E : XK} {x nm : Str} {p pos kpos : Pos} {e : Expr} {kws : List Keyword} {tk : TA} {g : List Value → List Value → List Value} {gV : List V → List V → List V}
theorem goGK {pins : List (Addr × Obj)} {s : Shared} {Q : VK} {us ws : List Value} {vs zs : List V} (F : FnG X.prog X.w X.K X.mg X.base CX k f fd ps sp) (hG : X.A.guards = some []) (hr : Room k X.A) (hb : KBinds X.K fd ps ks g gV) (hx : Passes CX X E)
    (I : Inv X pins z H s) (r : Vals vs us) (rz : Vals zs ws) (h : sp (gV vs zs) H Q E) : wpAny (model X.prog X.w) X.A (call (.ref f) us (ks.zip ws)) (EP X pins z Q) X.xe s := by
  have rr := hb.rel r rz
  have hn : (g us ws).length = ps.length := rr.length ▸ F.cnt _ _ _ _ h
  refine wpAny_call (codeAny_mono (F.go X.A X.stack s H _ _ _ Q E hG hr I.env0 (hb.to s us ws I.kIn hn) rr h) fun o s' hq => ?_)
  match o, hq with
  | .error e, hq => exact hx pins z H s e s' I hq
  | .ok (.ret u), hq => exact I.after hq
  | .ok .next, hq => exact False.elim hq
  | .ok .brk, hq => exact False.elim hq
  | .ok .cont, hq => exact False.elim hq
theorem pe_callG0K (F : FnG X.prog X.w X.K X.mg X.base CX k f fd ps sp) (hG : X.A.guards = some []) (hr : Room k X.A) (hm : X.mg x = some (.ref f)) (hk : PySem.W.keepIn X.K (.ref f) = true) (hb : KBinds X.K fd ps ks g gV) (hx : Passes CX X E)
    (hw : PK X kws tk) (gl : Gl X x := by rfl) (h1 : (backToKw pos (keywordEach kws X.env)).all (·.1.isSome) = true := by rfl) (h2 : (backToKw pos (keywordEach kws X.env)).filterMap (·.1) = ks := by rfl) (h3 : (x == ("__debug__" : Str)) = false := by decide)
    (h4 : ((backTo pos (starEach [] X.env)).any (·.1) || (backToKw pos (keywordEach kws X.env)).any (·.1.isNone)) = false := by rfl) : PE X (.Call (.Name x p) [] kws pos) (fun σ H Q => tk σ H fun zs H2 => sp (gV [] zs) H2 Q E) :=
  ⟨fun pins s σ H Q I h => wpAny_Call_Name_kw (ld_glob I gl hm (PySem.W.callWith_KW0 (h₀ := X.base) I.ok.mod.kin hk h1 (thn (hw.run pos pins s σ H _ I h) fun ws s2 ⟨zs, H2, I2, rz, q2⟩ => ⟨I2.kIn, by
    rw [h2]
    exact goGK (us := []) (vs := []) F hG hr hb hx I2 .nil rz q2⟩) h4) h3)⟩
theorem de_callK1 {pre : List PyData → Prop} {fn : List PyData → PyData} {a d : PyData} (F : FnG X.prog X.w X.K X.mg X.base CX0 k f fd ps (spD 1 pre fn)) (hG : X.A.guards = some []) (hr : Room k X.A) (hm : X.mg x = some (.ref f)) (hk : PySem.W.keepIn X.K (.ref f) = true)
    (hb : KBinds X.K fd ps [nm] g fun vs zs => vs ++ zs) (he : DE X z H e a) (hp : pre [a]) (gl : Gl X x := by rfl) (h1 : (backToKw pos (keywordEach [⟨some nm, e, kpos⟩] X.env)).all (·.1.isSome) = true := by rfl)
    (h2 : (backToKw pos (keywordEach [⟨some nm, e, kpos⟩] X.env)).filterMap (·.1) = [nm] := by rfl) (h3 : (x == ("__debug__" : Str)) = false := by decide)
    (h4 : ((backTo pos (starEach [] X.env)).any (·.1) || (backToKw pos (keywordEach [⟨some nm, e, kpos⟩] X.env)).any (·.1.isNone)) = false := by rfl) (hq : fn [a] = d := by rfl) : DE X z H (.Call (.Name x p) [] [⟨some nm, e, kpos⟩] pos) d := fun H1 q Q hQ =>
  .on (pe_callG0K F hG hr hm hk hb pass0 (pk_cons eE pk_nil) gl h1 h2 h3 h4) (he H1 q _ fun v H2 N p2 n hv => by
    subst hq
    exact ⟨[a], N, n.hi, .cons hv .nil, rfl, hp, fun v' H' M p3 m hd => hQ v' H' M (p2.tr p3) (n.tr p2 m) hd⟩)
end
end Fr

set_option Elab.async false
set_option linter.all false
set_option maxRecDepth 100000
set_option maxHeartbeats 1000000
set_option autoImplicit false
namespace Fr
open PySem PySem.Spec PyProof.Rows L2

/-! a list comprehension with a test -/
section
variable {X : Cx} {z : L2.St} {H H' N : Hp} {e a b c : Expr} {pos p p1 : Pos} {d : PyData} {ds : List PyData}
theorem filter_more {α : Type} {xs : List α} {q : α → Bool} {i : Nat} {x : α} (h : xs[i]? = some x) : (xs.take (i + 1)).filter q = (xs.take i).filter q ++ (if q x = true then [x] else []) := by
  rw [List.take_add_one, h, List.filter_append]
  show _ ++ List.filter q [x] = _
  rw [List.filter_cons, List.filter_nil]
theorem lcIf_core {elt cond : Expr} {scope : Scope} {own : List (Str × Nat)} {g : TG} {f : PyData → PyData} {q : PyData → Bool} {w : TI} (hi : ∀ H1, Kp H H1 → ∀ R : It → Hp → Prop, (∀ J H2 N, Kp H1 H2 → Nw H H1 N H2 → ItD J N ds → R J H2) → w z H1 R) (hl : ds.length ≤ 1000000)
    (he : ∀ d ∈ ds, ∀ (v : V) (N K : Hp) (Q : L2.St → Hp → Prop), Kp H N → Kp N K → Dat N v d → (∀ z2, wipe z2 (own.map (·.2)) = wipe z (own.map (·.2)) →
      (∀ (s : Shared) (M : Hp) (C : Addr) (cl : List (Str × Addr)) (fp : List Addr), DT (X.blk s M scope (compEnvC scope cl C X.env) fp) z2 N cond (q d) ∧ (q d = true → DE (X.blk s M scope (compEnvC scope cl C X.env) fp) z2 N elt (f d))) → Q z2 K) → g v (wipe z (own.map (·.2))) K Q)
    {H1 : Hp} (p : Kp H H1) {Q : VK} (qq : ∀ v H2 N, Kp H1 H2 → Nw H H1 N H2 → Dat N v (.list ((ds.filter q).map f)) → Q v H2) :
    tLc w g (fun z2 K Q => ∀ (s : Shared) (M : Hp) (C : Addr) (cl : List (Str × Addr)) (fp : List Addr), WT (X.blk s M scope (compEnvC scope cl C X.env) fp) z2 K cond Q)
      (fun z2 K Q => ∀ (s : Shared) (M : Hp) (C : Addr) (cl : List (Str × Addr)) (fp : List Addr), WE (X.blk s M scope (compEnvC scope cl C X.env) fp) z2 K elt Q) (own.map (·.2)) z H1 Q := by
  refine hi H1 p _ fun J H2 N p2 n it => ?_
  intro D hD
  have hND : N D = none := n.hi.none hD
  have hH1D : H1 D = none := p2.none hD
  let R : Nat → Hp → Prop := fun i K => i ≤ ds.length ∧ Kp H2 K ∧ ∃ ys M, K D = some (.lst ys) ∧ M D = none ∧ Nw H H1 M K ∧ DatL M ys (((ds.take i).filter q).map f)
  refine ⟨fun i m K => m = ds.length - i ∧ R i K, ⟨ds.length, by omega, by omega, .new hD, [], H, upd_same, p.none hH1D, (Nw.rfl p).more (p2.tr (.new hD)), by rw [List.take_zero]; exact .nil⟩, ?_⟩
  rintro i m K ⟨rfl, hil, kp, ys, M, hy, hMD, hM, hdy⟩
  by_cases hlt : i < ds.length
  · have hd : ds[i]? = some ds[i] := List.getElem?_eq_getElem hlt
    obtain ⟨hgo, hyl⟩ := (it i K (n.hi.tr kp)).1 _ hd
    refine .inr ⟨hgo, R (i + 1), fun K' h => ⟨ds.length - (i + 1), by omega, rfl, h⟩, fun x K' hx => ?_⟩
    obtain ⟨k1, N1, n1, hdx⟩ := hyl x K' hx
    refine he _ (List.getElem_mem hlt) x N1 K' _ (n.lo.tr n1.lo) n1.hi hdx fun z2 hw2 hE => ⟨hw2, ?_⟩
    intro s M0 C cl fp
    refine (hE s M0 C cl fp).1 K' n1.hi _ fun K3 k3 => ?_
    have more := filter_more (q := q) hd
    have k13 : Kp K K3 := k1.tr k3
    cases hq : q ds[i] with
    | false =>
      rw [if_neg Bool.false_ne_true]
      rw [hq, if_neg Bool.false_ne_true, List.append_nil] at more
      exact ⟨hlt, kp.tr k13, ys, M, k13 _ _ hy, hMD, hM.more k13, by rw [more]; exact hdy⟩
    | true =>
    rw [if_pos rfl]
    rw [hq, if_pos rfl] at more
    intro s M0 C cl fp
    have n13 : Nw N K N1 K3 := n1.more k3
    refine (hE s M0 C cl fp).2 hq K3 n13.hi _ fun y K4 N4 k4 n4 hdat => ?_
    have k14 : Kp K K4 := k13.tr k4
    have nn : Nw N K N4 K4 := n13.tr k13 n4
    have off : ∀ a, N a = none → K a ≠ none → N4 a = none := nn.off
    have hKD : K D ≠ none := by rw [hy]; exact fun q => nomatch q
    have mK : Kp M K4 := hM.hi.tr k14
    have hUD : uni M N4 D = none := uni_no hMD (off D hND hKD)
    have up : ∀ {A : Hp}, A D = none → Kp A K4 → Kp A (upd K4 D (.lst (ys ++ [y]))) := fun {A} hA q b o e => by
      have hb : b ≠ D := fun z => by rw [z, hA] at e; cases e
      rw [upd_ne hb]
      exact q b o e
    refine ⟨ys, k14 _ _ hy, ?_, hlt, ?_, ys ++ [y], uni M N4, upd_same, hUD, ⟨hM.lo.tr uni_l, up hUD (uni_in mK n4.hi), fun a h h1 => ?_⟩, ?_⟩
    · have h1 : ys.length ≤ i := by
        rw [hdy.len, List.length_map]
        refine Nat.le_trans (List.length_filter_le _ _) ?_
        rw [List.length_take]
        omega
      have := big_of hl
      omega
    · exact up hD (kp.tr k14)
    · have hKa : K a ≠ none := fun e => h1 (p2.none (kp.none e))
      exact uni_no (hM.off a h h1) (off a (n.off a h h1) hKa)
    · rw [more, List.map_append]
      exact (hdy.kp uni_l).app (.cons (hdat.kp (uni_r mK n4.hi)) .nil)
  · have e : i = ds.length := by omega
    refine .inl ⟨(it i K (n.hi.tr kp)).2 (by omega), ?_⟩
    rw [e, List.take_length] at hdy
    refine qq _ _ (upd M D (.lst ys)) (p2.tr kp) ⟨hM.lo.tr (.new hMD), fun b o e => ?_, fun b h h1 => ?_⟩ (.lst upd_same (hdy.kp (.new hMD)))
    · by_cases hb : b = D
      · subst hb
        rw [upd_same] at e
        rw [hy]
        exact e
      · rw [upd_ne hb] at e
        exact hM.hi _ _ e
    · have hb : b ≠ D := fun z => h1 (z ▸ hH1D)
      rw [upd_ne hb]
      exact hM.off b h h1
theorem de_lcIf {elt tg iter cond : Expr} {scope : Scope} {own : List (Str × Nat)} {g : TG} {f : PyData → PyData} {q : PyData → Bool} (hi : DI X z H tg iter ds) (hl : ds.length ≤ 1000000)
    (hc : X.calm = true) (hN : X.N.Nodup) (ok : BlkOk X.N X.env.scope scope own)
    (hg : ∀ (s : Shared) (K : Hp) (C : Addr) (cl : List (Str × Addr)) (fp : List Addr), PG (X.blk s K scope (compEnvC scope cl C X.env) fp) tg g)
    (he : ∀ d ∈ ds, ∀ (v : V) (N K : Hp) (Q : L2.St → Hp → Prop), Kp H N → Kp N K → Dat N v d → (∀ z2, wipe z2 (own.map (·.2)) = wipe z (own.map (·.2)) →
      (∀ (s : Shared) (M : Hp) (C : Addr) (cl : List (Str × Addr)) (fp : List Addr), DT (X.blk s M scope (compEnvC scope cl C X.env) fp) z2 N cond (q d) ∧ (q d = true → DE (X.blk s M scope (compEnvC scope cl C X.env) fp) z2 N elt (f d))) → Q z2 K) → g v (wipe z (own.map (·.2))) K Q)
    (hs : ∀ x, foldedSetIterable iter X.env x = pure x := by intro _; rfl) :
    DE X z H (.ListComp elt [⟨tg, iter, [cond], 0⟩] scope pos) (.list ((ds.filter q).map f)) := fun H1 p Q qq => by
  obtain ⟨w, hw, hi⟩ := hi
  exact .on (pe_lc (own := own) hc hN hw ok hg (fun s M C cl fp => pts_one ⟨fun pins s' z2 K Q I h => h s M C cl fp pins s' I⟩)
    (fun s M C cl fp => ⟨fun pins s' z2 K Q I h => h s M C cl fp pins s' I⟩) hs) (lcIf_core hi hl he p qq)
theorem db_setLcIf (i : Nat) {elt tg iter cond : Expr} {y : Str} {py spos : Pos} {rest : List Stmt} {d' : PyData} {scope : Scope} {own : List (Str × Nat)} {g : TG} {f : PyData → PyData} {q : PyData → Bool} (hi : DI X z H tg iter ds) (hl : ds.length ≤ 1000000)
    (hc : X.calm = true) (hN : X.N.Nodup) (ok : BlkOk X.N X.env.scope scope own)
    (hg : ∀ (s : Shared) (K : Hp) (C : Addr) (cl : List (Str × Addr)) (fp : List Addr), PG (X.blk s K scope (compEnvC scope cl C X.env) fp) tg g)
    (he : ∀ d ∈ ds, ∀ (v : V) (N K : Hp) (Q : L2.St → Hp → Prop), Kp H N → Kp N K → Dat N v d → (∀ z2, wipe z2 (own.map (·.2)) = wipe z (own.map (·.2)) →
      (∀ (s : Shared) (M : Hp) (C : Addr) (cl : List (Str × Addr)) (fp : List Addr), DT (X.blk s M scope (compEnvC scope cl C X.env) fp) z2 N cond (q d) ∧ (q d = true → DE (X.blk s M scope (compEnvC scope cl C X.env) fp) z2 N elt (f d))) → Q z2 K) → g v (wipe z (own.map (·.2))) K Q)
    (hs : ∀ x, foldedSetIterable iter X.env x = pure x := by intro _; rfl)
    (hb : ∀ v N, Kp H N → Dat N v (.list ((ds.filter q).map f)) → DB X (z.set i (some v)) N rest d') (hy : X.N[i]? = some y := by rfl) (hyl : X.env.scope.names.lookup y = some .local := by rfl)
    (hsw : swapsWith (.ListComp elt [⟨tg, iter, [cond], 0⟩] scope pos) (some (.Name y py)) spos.line X.env = pure true := by rfl) :
    DB X z H (.Assign [.Name y py] (.ListComp elt [⟨tg, iter, [cond], 0⟩] scope pos) spos :: rest) d' := fun H1 p D qq => by
  obtain ⟨w, hw, hi⟩ := hi
  refine .on (pss_cons (ps_setLc (tt := fun z2 K Q => ∀ (s : Shared) (M : Hp) (C : Addr) (cl : List (Str × Addr)) (fp : List Addr), WT (X.blk s M scope (compEnvC scope cl C X.env) fp) z2 K cond Q)
    (te := fun z2 K Q => ∀ (s : Shared) (M : Hp) (C : Addr) (cl : List (Str × Addr)) (fp : List Addr), WE (X.blk s M scope (compEnvC scope cl C X.env) fp) z2 K elt Q) (own := own) hc hN hy hyl hsw hw ok hg (fun s M C cl fp => pts_one ⟨fun pins s' z2 K Q I h => h s M C cl fp pins s' I⟩)
    (fun s M C cl fp => ⟨fun pins s' z2 K Q I h => h s M C cl fp pins s' I⟩) hs) eB) ?_
  unfold tSeq tAsg
  dsimp only
  refine lcIf_core hi hl he p fun v H2 N p2 n hv => ?_
  exact hb v N n.lo hv H2 n.hi D fun v' H3 M p3 m hv' => qq _ _ M (p2.tr p3) (n.tr p2 m) hv'
end
section
variable {X : Cx} {z : L2.St} {N N' H H' : Hp} {j : Addr} {c k l m : Nat} {pos p : Pos} {R : List PyData → Prop}
theorem jlcIf_core {elt cond : Expr} {scope : Scope} {own : List (Str × Nat)} {g : TG} {L : Nat} {w : TI} (hi : ∀ H, Kp N H → N j = none → Jar H j c → ∀ S : It → Hp → Prop, (∀ J H' M ds, Go j N H M H' (c + k) → ItD J M ds → R ds → S J H') → w z H S) (hL : ∀ ds, R ds → ds.length ≤ L) (hL2 : L ≤ 1000000)
    (he : ∀ (ds : List PyData) (i : Nat) (d : PyData), R ds → ds[i]? = some d → ∀ (v : V) (M K : Hp) (Q : L2.St → Hp → Prop), Kp N M → M j = none → Kp M K → Dat M v d → (∀ z2, wipe z2 (own.map (·.2)) = wipe z (own.map (·.2)) →
      (∀ (s : Shared) (M0 : Hp) (C : Addr) (cl : List (Str × Addr)) (fp : List Addr), JT (X.blk s M0 scope (compEnvC scope cl C X.env) fp) z2 M j (c + k + i * l) cond l (fun _ => True) ∧ DE (X.blk s M0 scope (compEnvC scope cl C X.env) fp) z2 M elt d) → Q z2 K) → g v (wipe z (own.map (·.2))) K Q)
    (kp : Kp N H) (h0 : N j = none) (q : Jar H j c) {Q : VK} (hQ : ∀ v H' M d, Go j N H M H' (c + (k + L * l)) → Dat M v d → (∃ es ds : List PyData, d = .list es ∧ R ds ∧ es.Sublist ds) → Q v H') :
    tLc w g (fun z2 K Q => ∀ (s : Shared) (M0 : Hp) (C : Addr) (cl : List (Str × Addr)) (fp : List Addr), WT (X.blk s M0 scope (compEnvC scope cl C X.env) fp) z2 K cond Q)
      (fun z2 K Q => ∀ (s : Shared) (M0 : Hp) (C : Addr) (cl : List (Str × Addr)) (fp : List Addr), WE (X.blk s M0 scope (compEnvC scope cl C X.env) fp) z2 K elt Q) (own.map (·.2)) z H Q := by
  refine hi H kp h0 q _ fun J H2 N1 ds g1 it hR => ?_
  intro D hD
  have hlen := hL ds hR
  have hND : N1 D = none := g1.hi.none hD
  have hHD : H D = none := by
    cases e : H D with
    | none => rfl
    | some o =>
      have hj : D ≠ j := fun y => g1.jar.some (y ▸ hD)
      rw [g1.kj D o hj e] at hD
      cases hD
  have hjD : j ≠ D := fun y => by rw [← y] at hHD; exact q.some hHD
  let T : Nat → Hp → Prop := fun i K => i ≤ ds.length ∧ ∃ (ys : List V) (M : Hp) (es : List PyData), K D = some (.lst ys) ∧ M D = none ∧ Kp N1 M ∧ Go j N H M K (c + k + i * l) ∧ DatL M ys es ∧ es.Sublist (ds.take i)
  refine ⟨fun i m K => m = ds.length - i ∧ T i K, ⟨ds.length, by omega, by omega, [], N1, [], upd_same, hND, .rfl, ?_, .nil, List.nil_sublist _⟩, ?_⟩
  · refine ⟨fun a o ha e => ?_, g1.lo, fun a o e => ?_, g1.off, ?_⟩
    · by_cases hb : a = D
      · rw [hb, hHD] at e; cases e
      · rw [upd_ne hb]; exact g1.kj a o ha e
    · by_cases hb : a = D
      · rw [hb, hND] at e; cases e
      · rw [upd_ne hb]; exact g1.hi a o e
    · obtain ⟨a1, a2, a3, hh, rest⟩ := g1.jar.ex
      exact ⟨a1, a2, a3, by rw [upd_ne hjD]; exact hh, rest.1, rest.2.1, rest.2.2.1, rest.2.2.2.1, rest.2.2.2.2.1, by have := rest.2.2.2.2.2; omega⟩
  · rintro i m K ⟨rfl, hil, ys, M, es, hy, hMD, hNM, gK, hdy, hel⟩
    have kNK : Kp N1 K := hNM.tr gK.hi
    by_cases hlt : i < ds.length
    · have hd : ds[i]? = some ds[i] := List.getElem?_eq_getElem hlt
      obtain ⟨hgo, hyl⟩ := (it i K kNK).1 _ hd
      refine .inr ⟨hgo, T (i + 1), fun K' h => ⟨ds.length - (i + 1), by omega, rfl, h⟩, fun x K' hx => ?_⟩
      obtain ⟨k1, N2, n2, hdx⟩ := hyl x K' hx
      obtain ⟨M2, m1, m2⟩ := n2.up hNM gK.hi k1
      have hKD : K D ≠ none := by rw [hy]; exact fun q => nomatch q
      have hM2D : M2 D = none := m2.off D hMD hKD
      have gK' : Go j N H M2 K' (c + k + i * l) := gK.tr (.of k1 m2 gK.jar)
      have hMj : M2 j = none := gK'.mj h0 q
      refine he ds i _ hR hd x M2 K' _ gK'.lo hMj gK'.hi (hdx.kp m1) fun z2 hw2 hE => ⟨hw2, ?_⟩
      intro s M0 C cl fp
      have tk : ds.take (i + 1) = ds.take i ++ [ds[i]] := by
        rw [List.take_add_one, hd]
        rfl
      have el : (i + 1) * l = i * l + l := Nat.succ_mul i l
      have hll : ys.length ≤ i := by
        rw [hdy.len]
        refine Nat.le_trans hel.length_le ?_
        rw [List.length_take]
        omega
      refine (hE s M0 C cl fp).1 K' gK'.hi hMj gK'.jar _ fun b K3 M3 g3 _ => ?_
      have hK'D : K' D = some (.lst ys) := k1 _ _ hy
      have hK3D : K3 D = some (.lst ys) := g3.kj D _ (Ne.symm hjD) hK'D
      have hM3D : M3 D = none := g3.off D hM2D (by rw [hK'D]; exact fun q => nomatch q)
      cases b with
      | false =>
        rw [if_neg Bool.false_ne_true]
        refine ⟨hlt, ys, M3, es, hK3D, hM3D, hNM.tr (m2.lo.tr g3.lo), (gK'.tr g3).mono (by omega), hdy.kp (m2.lo.tr g3.lo), ?_⟩
        rw [tk]
        exact hel.trans (List.sublist_append_left _ _)
      | true =>
      rw [if_pos rfl]
      intro s M0 C cl fp
      refine ((hE s M0 C cl fp).2.kp g3.lo) K3 g3.hi _ fun y K4 M4 k4 n4 hdat => ?_
      have g4 : Go j M2 K' M4 K4 (c + k + i * l + l) := g3.tr (.of k4 n4 g3.jar)
      have hK4D : K4 D = some (.lst ys) := g4.kj D _ (Ne.symm hjD) hK'D
      have hM4D : M4 D = none := g4.off D hM2D (by rw [hK'D]; exact fun q => nomatch q)
      have gg : Go j N H M4 K4 (c + k + i * l + l) := gK'.tr g4
      refine ⟨ys, hK4D, ?_, hlt, ys ++ [y], M4, es ++ [ds[i]], upd_same, hM4D, ?_, ?_, (hdy.kp (m2.lo.tr g4.lo)).app (.cons hdat .nil), by rw [tk]; exact hel.append (List.Sublist.refl _)⟩
      · have := big_of hL2
        omega
      · exact hNM.tr (m2.lo.tr g4.lo)
      · refine ⟨fun a o ha e => ?_, gg.lo, fun a o e => ?_, gg.off, ?_⟩
        · by_cases hb : a = D
          · rw [hb, hHD] at e; cases e
          · rw [upd_ne hb]; exact gg.kj a o ha e
        · by_cases hb : a = D
          · rw [hb, hM4D] at e; cases e
          · rw [upd_ne hb]; exact gg.hi a o e
        · obtain ⟨a1, a2, a3, hh, rest⟩ := gg.jar.ex
          refine ⟨a1, a2, a3, by rw [upd_ne hjD]; exact hh, rest.1, rest.2.1, rest.2.2.1, rest.2.2.2.1, rest.2.2.2.2.1, ?_⟩
          have := rest.2.2.2.2.2
          have e : (i + 1) * l = i * l + l := Nat.succ_mul i l
          rw [e]
          omega
    · have e : i = ds.length := by omega
      refine .inl ⟨(it i K kNK).2 e, ?_⟩
      have hle : i * l ≤ L * l := Nat.mul_le_mul_right l (by omega)
      refine hQ _ K (upd M D (.lst ys)) (.list es) ⟨gK.kj, gK.lo.tr (.new hMD), fun a o e => ?_, fun a h1 h2 => ?_, gK.jar.mono (by omega)⟩ (.lst upd_same (hdy.kp (.new hMD))) ⟨es, ds, rfl, hR, by rw [e, List.take_length] at hel; exact hel⟩
      · by_cases hb : a = D
        · subst hb
          rw [upd_same] at e
          rw [hy]
          exact e
        · rw [upd_ne hb] at e
          exact gK.hi a o e
      · have hb : a ≠ D := fun y => h2 (y ▸ hHD)
        rw [upd_ne hb]
        exact gK.off a h1 h2
theorem je_lcIf {elt tg iter cond : Expr} {scope : Scope} {own : List (Str × Nat)} {g : TG} {L : Nat} (hi : JI X z N j c tg iter k R) (hL : ∀ ds, R ds → ds.length ≤ L) (hL2 : L ≤ 1000000)
    (hc : X.calm = true) (hN : X.N.Nodup) (ok : BlkOk X.N X.env.scope scope own)
    (hg : ∀ (s : Shared) (K : Hp) (C : Addr) (cl : List (Str × Addr)) (fp : List Addr), PG (X.blk s K scope (compEnvC scope cl C X.env) fp) tg g)
    (he : ∀ (ds : List PyData) (i : Nat) (d : PyData), R ds → ds[i]? = some d → ∀ (v : V) (M K : Hp) (Q : L2.St → Hp → Prop), Kp N M → M j = none → Kp M K → Dat M v d → (∀ z2, wipe z2 (own.map (·.2)) = wipe z (own.map (·.2)) →
      (∀ (s : Shared) (M0 : Hp) (C : Addr) (cl : List (Str × Addr)) (fp : List Addr), JT (X.blk s M0 scope (compEnvC scope cl C X.env) fp) z2 M j (c + k + i * l) cond l (fun _ => True) ∧ DE (X.blk s M0 scope (compEnvC scope cl C X.env) fp) z2 M elt d) → Q z2 K) → g v (wipe z (own.map (·.2))) K Q)
    (hs : ∀ x, foldedSetIterable iter X.env x = pure x := by intro _; rfl) :
    JE X z N j c (.ListComp elt [⟨tg, iter, [cond], 0⟩] scope pos) (k + L * l) (fun d => ∃ es ds : List PyData, d = .list es ∧ R ds ∧ es.Sublist ds) := fun H kp h0 q Q hQ => by
  obtain ⟨w, hw, hi⟩ := hi
  exact .on (pe_lc (own := own) hc hN hw ok hg (fun s M C cl fp => pts_one ⟨fun pins s' z2 K Q I h => h s M C cl fp pins s' I⟩)
    (fun s M C cl fp => ⟨fun pins s' z2 K Q I h => h s M C cl fp pins s' I⟩) hs) (jlcIf_core hi hL hL2 he kp h0 q hQ)
theorem ws_setLcIfJ (i : Nat) {elt tg iter cond : Expr} {y : Str} {py spos : Pos} {D : Ends} {scope : Scope} {own : List (Str × Nat)} {g : TG} {L : Nat} (hi : JI X z N j c tg iter k R) (hL : ∀ ds, R ds → ds.length ≤ L) (hL2 : L ≤ 1000000)
    (hc : X.calm = true) (hN : X.N.Nodup) (ok : BlkOk X.N X.env.scope scope own)
    (hg : ∀ (s : Shared) (K : Hp) (C : Addr) (cl : List (Str × Addr)) (fp : List Addr), PG (X.blk s K scope (compEnvC scope cl C X.env) fp) tg g)
    (he : ∀ (ds : List PyData) (i : Nat) (d : PyData), R ds → ds[i]? = some d → ∀ (v : V) (M K : Hp) (Q : L2.St → Hp → Prop), Kp N M → M j = none → Kp M K → Dat M v d → (∀ z2, wipe z2 (own.map (·.2)) = wipe z (own.map (·.2)) →
      (∀ (s : Shared) (M0 : Hp) (C : Addr) (cl : List (Str × Addr)) (fp : List Addr), JT (X.blk s M0 scope (compEnvC scope cl C X.env) fp) z2 M j (c + k + i * l) cond l (fun _ => True) ∧ DE (X.blk s M0 scope (compEnvC scope cl C X.env) fp) z2 M elt d) → Q z2 K) → g v (wipe z (own.map (·.2))) K Q)
    (hs : ∀ x, foldedSetIterable iter X.env x = pure x := by intro _; rfl)
    (kp : Kp N H) (h0 : N j = none) (q : Jar H j c) (hD : ∀ v H' M d, Go j N H M H' (c + (k + L * l)) → Dat M v d → (∃ es ds : List PyData, d = .list es ∧ R ds ∧ es.Sublist ds) → D.nx (z.set i (some v)) H') (hy : X.N[i]? = some y := by rfl) (hyl : X.env.scope.names.lookup y = some .local := by rfl)
    (hsw : swapsWith (.ListComp elt [⟨tg, iter, [cond], 0⟩] scope pos) (some (.Name y py)) spos.line X.env = pure true := by rfl) :
    WS X D z H (.Assign [.Name y py] (.ListComp elt [⟨tg, iter, [cond], 0⟩] scope pos) spos) := by
  obtain ⟨w, hw, hi⟩ := hi
  refine .on (ps_setLc (tt := fun z2 K Q => ∀ (s : Shared) (M : Hp) (C : Addr) (cl : List (Str × Addr)) (fp : List Addr), WT (X.blk s M scope (compEnvC scope cl C X.env) fp) z2 K cond Q)
    (te := fun z2 K Q => ∀ (s : Shared) (M : Hp) (C : Addr) (cl : List (Str × Addr)) (fp : List Addr), WE (X.blk s M scope (compEnvC scope cl C X.env) fp) z2 K elt Q) (own := own) hc hN hy hyl hsw hw ok hg (fun s M C cl fp => pts_one ⟨fun pins s' z2 K Q I h => h s M C cl fp pins s' I⟩)
    (fun s M C cl fp => ⟨fun pins s' z2 K Q I h => h s M C cl fp pins s' I⟩) hs) ?_
  unfold tAsg
  exact jlcIf_core hi hL hL2 he kp h0 q hD
end
end Fr

set_option Elab.async false
set_option linter.all false
set_option maxRecDepth 100000
set_option maxHeartbeats 4000000
set_option autoImplicit false
namespace Fr
open PySem PySem.Spec PyProof.Rows L2
theorem DT.go {X : Cx} {z : L2.St} {N H : Hp} {e : Expr} {b : Bool} {Q : Bool → Hp → Prop} (h : DT X z N e b) (p : Kp N H) (hQ : ∀ H2, Kp H H2 → Q b H2) : WT X z H e Q := h H p Q hQ
theorem DE.go {X : Cx} {z : L2.St} {N H : Hp} {e : Expr} {d : PyData} {Q : VK} (h : DE X z N e d) (p : Kp N H) (hQ : ∀ v H2 N2, Kp H H2 → Nw N H N2 H2 → Dat N2 v d → Q v H2) : WE X z H e Q := h H p Q hQ
theorem DA.go {X : Cx} {z : L2.St} {N H : Hp} {es : List Expr} {ds : List PyData} {Q : List V → Hp → Prop} (h : DA X z N es ds) (p : Kp N H) (hQ : ∀ v H2 N2, Kp H H2 → Nw N H N2 H2 → DatL N2 v ds → Q v H2) : WA X z H es Q := h H p Q hQ
section
variable {X : Cx} {z : L2.St} {H : Hp} {pos p p1 p2 p3 : Pos} {e : Expr} {ds : List PyData} {kk : Nat} {k : Int} {x : Str}
theorem de_revT (he : DE X z H e (.tuple ds)) : DE X z H (.Subscript e (.Slice none none (some (.UnaryOp .USub (.Constant (.int 1) kk p1) p2)) p3) pos) (.tuple ds.reverse) := fun H1 p Q q =>
  .on (pe_revT eE) (he H1 p _ fun v H2 N p2 n hv => by
    obtain ⟨a, xs, rfl, h1, h2⟩ := hv.tup_inv
    exact ⟨a, xs, rfl, SqT.of (n.hi _ _ h1), fun l hl => q _ _ (upd N l (.tup xs.reverse)) (p2.tr (.new hl)) (n.tr p2 (.laid n.hi hl)) (.tup upd_same (h2.rev.kp (.new (n.hi.none hl))))⟩)
theorem rd_rep (h : ds.length * k.toNat ≤ 1000000) (h1 : 0 ≤ k) (h2 : k ≤ 1000000) : RD rRep (.list ds) (.int k) (.list (List.replicate k.toNat ds).flatten) := fun x y K N Q p hx hy q => by
  obtain ⟨l, xs, rfl, h3, h4⟩ := hx.lst_inv
  refine ⟨l, k, xs, rfl, hy.int_inv, p _ _ h3, by omega, by omega, big_of (by rw [h4.len]; exact h), fun m hm => q _ _ (upd N m (.lst (List.replicate k.toNat xs).flatten)) (.new hm) (.laid p hm) (.lst upd_same (DatL.kp (.new (p.none hm)) ?_))⟩
  generalize k.toNat = t
  induction t with
  | zero => exact .nil
  | succ t ih =>
    rw [List.replicate_succ, List.replicate_succ, List.flatten_cons, List.flatten_cons]
    exact h4.app ih
theorem de_listT (he : DE X z H e (.tuple ds)) (hm : X.mg "list" = none) (hg : Gl X "list" := by rfl) (hb : bootBuiltins "list" = some (.type "list") := by decide +kernel)
    (s1 : starEach [e] X.env = (false, eval e X.env) :: starEach [] X.env := by rfl) (s3 : (backTo pos (starEach [] X.env)).any (·.1) = false := by rfl) : DE X z H (.Call (.Name "list" p) [e] [] pos) (.list ds) := fun H1 p Q q =>
  .on (pe_callTy call_list_of hg hm hb (pa_cons eE pa_nil s1) (by decide) (by decide) s1 s3) (he H1 p _ fun v H2 N p2 n hv => by
    obtain ⟨a, xs, rfl, h1, h2⟩ := hv.tup_inv
    exact ⟨a, xs, rfl, .inr (SqT.of (n.hi _ _ h1)), fun l hl => q _ _ (upd N l (.lst xs)) (p2.tr (.new hl)) (n.tr p2 (.laid n.hi hl)) (.lst upd_same (h2.kp (.new (n.hi.none hl))))⟩)
end

/-! a tuple taken some times, the empty one too -/
theorem tuple_mul0 (l : Addr) (items : Array Value) (n : Nat) (dd : Option Addr) (sl : Array (Option Value)) (x : Int) (u : Tok)
    (c0 : (decide (x < -(2 ^ 63)) || decide (x ≥ 2 ^ 63)) = false) (c1 : (items.isEmpty || x == 1) = true) :
    Meets (Builtin.«tuple.__mul__» ⟨[.ref l, .int x u], []⟩) (fun _ R s =>
      s.heap.get? l = some { cls := .type "tuple", dict := dd, data := .seq items n, slots := sl } ∧ R (.ok (.ret (.ref l))) s) :=
  .of_wp fun prog w A R s h => by
    obtain ⟨hp, g, d, tk, os⟩ := s
    obtain ⟨hl, h⟩ := h
    have f1 := AutoSeq1.idx_int
    wp_walk using wpAny_loadPart' hl
    repeat (first
      | (refine wpAny_ite_false (decide_eq_false (by rw [c0]; exact Bool.false_ne_true)) ?_
         wp_walk using wpAny_loadPart' hl)
      | (refine wpAny_ite_true (decide_eq_true c1) ?_
         wp_walk using wpAny_loadPart' hl))
    exact ⟨_, rfl, h⟩
def rRepE (K : PySem.W.Frag) : R2 := fun x y H Q =>
  ∃ l k xs, x = .ref l ∧ y = .int k ∧ SqT K H l xs ∧ 2 ≤ k ∧ k ≤ 1000 ∧ xs.length ≤ 1000 ∧ (xs = [] → Q (.ref l) H) ∧
    ∀ p, H p = none → Q (.ref p) (upd H p (.tup (List.replicate k.toNat xs).flatten))
section
variable {X : Cx} {N : Hp}
theorem op_repE : OpR X (binaryOp .Mult) (rRepE X.K) := by
  intro pins s σ H x y v u Q I rx ry h
  obtain ⟨l, k, xs, rfl, rfl, hT, h1, h2, hz, q0, q⟩ := h
  by_cases hne : xs = []
  · subst hne
    cases rx
    obtain ⟨t, rfl⟩ := ry
    obtain ⟨its, r, ⟨⟨cls, dd, data, sl⟩, ho, hc, n, hd⟩, hs⟩ :=
      I.tuple hT
    simp only at hc hd
    subst hc hd
    obtain rfl : its = [] := List.eq_nil_of_length_eq_zero r.length.symm
    have c0 : (decide (k < -(2 ^ 63)) || decide (k ≥ 2 ^ 63)) = false := by
      rw [decide_eq_false (by omega), decide_eq_false (by omega)]
      rfl
    refine wpAny_binaryOp_repeat_ref (T := "tuple") (U := "int") (by decide)
      ⟨_, ho, rfl⟩ (fun s' => typeIs_int s' k t) noFill_tuple_mul
      F.fills_int_mul F.slot_int_rmul repeat_tuple
      F.slot_int_index.lookup
      (call_meets F.slot_int_rmul (typeIs_int s k t) F.entry_int_rmul
        (F.args_int_rmul_2 _ _) (int_rmul_tuple k t l _ n dd sl)
        ⟨ho, rfl, ⟨_, ho, rfl⟩, call_meets F.slot_tuple_mul
          ⟨_, ho, rfl⟩ F.entry_tuple_mul
          (F.args_tuple_mul_2 _ _) (tuple_mul0 l _ n dd sl k t c0 rfl)
          ⟨ho, ?_⟩⟩)
    exact ⟨.ref l, _, I, rfl, q0 rfl⟩
  · exact op_repT pins s σ H _ _ v u Q I rx ry
      ⟨l, k, xs, rfl, rfl, hT, hne, h1, h2, hz, q⟩
theorem rd_repE {ds : List PyData} {k : Int} (hl : ds.length ≤ 1000) (h1 : 2 ≤ k) (h2 : k ≤ 1000) :
    RD (rRepE X.K) (.tuple ds) (.int k) (.tuple (List.replicate k.toNat ds).flatten) := fun x y K N Q p hx hy q => by
  obtain ⟨l, xs, rfl, h3, h4⟩ := hx.tup_inv
  refine ⟨l, k, xs, rfl, hy.int_inv, SqT.of (p _ _ h3), h1, h2, by rw [h4.len]; exact hl, fun e => ?_, fun m hm => ?_⟩
  · subst e
    cases h4
    refine q _ _ N .rfl (.rfl p) ?_
    have e : (List.replicate k.toNat ([] : List PyData)).flatten = [] := by
      rw [List.flatten_eq_nil_iff]
      intro l hl
      exact List.eq_of_mem_replicate hl
    rw [e]
    exact .tup h3 .nil
  · refine q _ _ (upd N m (.tup (List.replicate k.toNat xs).flatten)) (.new hm) (.laid p hm) (.tup upd_same (DatL.kp (.new (p.none hm)) ?_))
    generalize k.toNat = t
    induction t with
    | zero => exact .nil
    | succ t ih =>
      rw [List.replicate_succ, List.replicate_succ, List.flatten_cons, List.flatten_cons]
      exact h4.app ih
end
section
variable {X : Cx} {z : L2.St} {H : Hp} {pos p : Pos} {v : Expr} {d : PyData} {w : Str} {kk : Nat}
theorem de_dict1 (h : DE X z H v d) : DE X z H (.Dict [some (.Constant (.str w) kk p)] [v] pos) (.dict [(.str w, d)]) := fun H1 p Q q =>
  .on (pe_disp (pps_cons pe_str eE pps_nil) rfl rfl (fun h => nomatch h) (by show 1 ≤ 15; decide)) fun a ha => by
    have hNn : H a = none := p.none ha
    refine h (upd H1 a (.dK [])) (p.tr (.new ha)) _ fun v H2 N p2 n hv => ⟨p2 a _ upd_same, [(.inr w, v)], rfl, by show 1 ≤ 15; decide, ?_⟩
    have hNa : N a = none := n.off a hNn (by rw [upd_same]; exact fun q => nomatch q)
    refine q (.ref a) (upd H2 a (.dK [(.inr w, v)])) (upd N a (.dK [(.inr w, v)])) (fun b o e => ?_) ⟨n.lo.tr (.new hNa), fun b o e => ?_, fun b h1 h2 => ?_⟩ (.dct (kvs := [(.inr w, v)]) (ks := [.str w]) (ds := [d]) upd_same rfl (.cons (hv.kp (.new hNa)) .nil))
    · have hb : b ≠ a := fun y => by rw [y, ha] at e; cases e
      rw [upd_ne hb]
      exact p2 b o (by rw [upd_ne hb]; exact e)
    · by_cases hb : b = a
      · subst hb
        rw [upd_same] at e
        rw [upd_same]
        exact e
      · rw [upd_ne hb] at e
        rw [upd_ne hb]
        exact n.hi b o e
    · have hb : b ≠ a := fun y => h2 (y ▸ ha)
      rw [upd_ne hb]
      exact n.off b h1 (by rw [upd_ne hb]; exact h2)
end
end Fr

set_option Elab.async false
set_option linter.all false
set_option maxRecDepth 100000
set_option maxHeartbeats 2000000
set_option autoImplicit false
namespace Fr
open PySem PySem.Spec PyProof.Rows L2
namespace Q
def topS (i : Nat) : Stmt := PySem.Challenge.pw_fitruns_k12_settings_known_by_hand.main.body.getD i (.Pass ⟨0, 0, 0, 0⟩)
abbrev sInt : Stmt := topS 5
abbrev sName : Stmt := topS 7
abbrev sRow : Stmt := topS 8
abbrev sAsc : Stmt := topS 9
abbrev sWithin : Stmt := topS 6
abbrev sNames : Stmt := topS 10
abbrev sCounter : Stmt := topS 12
abbrev sCounters : Stmt := topS 13
abbrev sCheckC : Stmt := topS 14
theorem scWithin : FnScope ["value", "least", "most"] ["value", "least", "most"] (defScope sWithin) := ⟨rfl, rfl, rfl, by decide +kernel, rfl, by decide +kernel, by decide +kernel⟩
theorem scNames : FnScope ["value", "part"] ["value"] (defScope sNames) := ⟨rfl, rfl, rfl, by decide +kernel, rfl, by decide +kernel, by decide +kernel⟩
theorem scCounter : FnScope ["value"] ["value"] (defScope sCounter) := ⟨rfl, rfl, rfl, by decide +kernel, rfl, by decide +kernel, by decide +kernel⟩
theorem scCounters : FnScope ["value", "part"] ["value"] (defScope sCounters) := ⟨rfl, rfl, rfl, by decide +kernel, rfl, by decide +kernel, by decide +kernel⟩
theorem scCheckC : FnScope ["counters"] ["counters"] (defScope sCheckC) := ⟨rfl, rfl, rfl, by decide +kernel, rfl, by decide +kernel, by decide +kernel⟩
theorem scInt : FnScope ["value"] ["value"] (defScope sInt) := ⟨rfl, rfl, rfl, by decide +kernel, rfl, by decide +kernel, by decide +kernel⟩
theorem scName : FnScope ["value", "sign"] ["value"] (defScope sName) := ⟨rfl, rfl, rfl, by decide +kernel, rfl, by decide +kernel, by decide +kernel⟩
theorem scRow : FnScope ["value", "width"] ["value", "width"] (defScope sRow) := ⟨rfl, rfl, rfl, by decide +kernel, rfl, by decide +kernel, by decide +kernel⟩
theorem scAsc : FnScope ["items", "item", "later"] ["items"] (defScope sAsc) := ⟨rfl, rfl, rfl, by decide +kernel, rfl, by decide +kernel, by decide +kernel⟩
section
variable {P : Program} {w : World} {K : PySem.W.Frag} {mg : Str → Option Value} {base : Heap} {f : Addr} {fd : FuncData}
theorem ok_int (D : Df K mg "is_integer" sInt ["value"] f fd) (B : Blt mg) : FnG P w K mg base CX0 1 f fd ["value"] (spD 1 (fun _ => True) fun ds => .bool (dInt (ds.headD .none))) := by
  refine fnD D.F scInt rfl fun cdv A outer s H M vs ds E hg hr hd hl hp => ?_
  obtain ⟨d, rfl⟩ := one_of hl
  cases hd with
  | cons h1 h2 =>
    cases h2
    exact db_ret (de_and (de_isi (de_name 0 rfl h1) (kit_int d) B.isi B.int) fun _ => de_one (de_not (de_isi (de_name 0 rfl h1) (kit_bool d) B.isi B.bool)))
theorem ok_row (D : Df K mg "is_row" sRow ["value", "width"] f fd) (B : Blt mg) : FnG P w K mg base CX0 1 f fd ["value", "width"] (spD 2 (fun ds => ∃ n, ds[1]? = some (.int n)) fun ds => .bool (dRow (ds.headD .none) (intOf (ds.getD 1 .none)))) := by
  refine fnD D.F scRow rfl fun cdv A outer s H M vs ds E hg hr hd hl hp => ?_
  obtain ⟨d, d2, rfl⟩ := two_of hl
  obtain ⟨n, e⟩ := hp
  cases e
  cases hd with
  | cons h1 h2 =>
    cases h2 with
    | cons h2 h3 =>
      cases h3
      refine db_ret (de_and (de_isi (de_name 0 rfl h1) (kit_tup d) B.isi B.tuple) fun hk => de_one (de_cmp op_eq rd_eq_int (de_len (de_name 0 rfl h1) ?_ B.len) (de_name 1 rfl h2)))
      cases d with
      | tuple _ => rfl
      | _ => cases hk
theorem ok_name (D : Df K mg "is_name" sName ["value"] f fd) (B : Blt mg) : FnG P w K mg base CX0 1 f fd ["value"] (spD 1 (fun ds => ∀ x ∈ ds, wt x ≤ 1000000) fun ds => .bool (dName (ds.headD .none))) := by
  refine fnD D.F scName rfl fun cdv A outer s H M vs ds E hg hr hd hl hp => ?_
  obtain ⟨d, rfl⟩ := one_of hl
  cases hd with
  | cons h1 h2 =>
    cases h2
    have hw := hp d (List.mem_singleton.mpr rfl)
    cases hk : isStr d with
    | false =>
      refine db_ret (DE.to (d := .bool (false && false)) (de_and (de_isi (de_name 0 rfl h1) ((kit_str d).trans (by rw [hk])) B.isi B.str) fun h => nomatch h) ?_)
      cases d with
      | str x => cases hk
      | _ => rfl
    | true =>
      cases d with
      | str x =>
        have hx : (x.length : Nat) ≤ 1000000 := by
          rw [wt_str] at hw
          omega
        refine db_ret (DE.to (d := .bool (true && ((decide ((1 : Int) ≤ x.length) && decide ((x.length : Int) ≤ 8)) && (signs x).all qs))) (de_and (de_isi (de_name 0 rfl h1) (kit_str _) B.isi B.str) fun _ =>
          de_and (de_chain op_le op_le de_int (de_len (de_name 0 rfl h1) (decide_eq_true hx) B.len) rd_le_int fun _ => ⟨de_int, rd_le_int⟩) fun _ =>
          de_one (de_allM (de_lc (own := [("sign", 1)]) (g := gName 1) (f := fun d => .bool (qs d)) (di_str (de_name 0 rfl h1)) (by rw [signs_len]; exact hx) rfl scName.nd (blkOk_by (N := ["value", "sign"]) (sc := defScope sName) (by decide +kernel))
            (fun _ _ _ _ _ => pg_name scName.nd rfl (.inl rfl)) fun d hd v N K Q p1 p2 hv q => q _ rfl fun s M C cl fp => ?_) rfl B.all)) ?_)
        · obtain ⟨c, rfl⟩ := mem_signs hd
          exact de_chain op_le_str op_le_str de_str (de_name 1 rfl hv) rd_le_str fun _ => ⟨de_str, rd_le_str⟩
        · rw [qs_all]
          rfl
      | _ => cases hk
theorem ok_asc (D : Df K mg "is_ascending" sAsc ["items"] f fd) (B : Blt mg) : FnG P w K mg base CX0 1 f fd ["items"] (spD 1 (fun ds => (∃ xs, (ds = [.list xs] ∨ ds = [.tuple xs]) ∧ Ord xs ∧ xs.length ≤ 1000000)) fun ds => .bool (asc (seqOf (ds.headD .none)))) := by
  refine fnD D.F scAsc rfl fun cdv A outer s H M vs ds E hg hr hd hl hp => ?_
  obtain ⟨xs, hx, ho, hn⟩ := hp
  have zl : (zipD xs (xs.drop 1)).length ≤ 1000000 := by rw [zipD_len]; omega
  have fin : ∀ {z : L2.St} {e : Expr} {scope : Scope} {pos : Pos}, True := fun {_ _ _ _} => trivial
  have hu : (A.deeper (envOfC "is_ascending" (defScope sAsc) s.heap.objs.size f cdv)).units + 64 < cLine := hr.units
  have he : asc (seqOf (ds.headD .none)) = (zipD xs (xs.drop 1)).all lt2 := by
    rw [lt2_all]
    rcases hx with rfl | rfl <;> rfl
  rw [he]
  rcases hx with rfl | rfl
  · cases hd with
    | cons h1 h2 =>
      cases h2
      refine db_ret (de_allM (de_lc (own := [("item", 1), ("later", 2)]) (g := gTup _ 2 (gCons (gName 1) (gCons (gName 2) gNil))) (f := fun d => .bool (lt2 d))
        (di_zipL (de_name 0 rfl h1) ((de_cutL (de_name 0 rfl h1) (do_some de_int) do_none).to (by rw [cut_tail])) B.zip) zl rfl scAsc.nd (blkOk_by (N := ["items", "item", "later"]) (sc := defScope sAsc) (by decide +kernel))
        (fun _ _ _ _ _ => pg_tup rfl (pgs_cons (pg_name scAsc.nd rfl (.inl rfl)) (pgs_cons (pg_name scAsc.nd rfl (.inl rfl)) pgs_nil))) fun d hd v N K Q p1 p2 hv q => ?_) rfl B.all)
      obtain ⟨x, y, rfl, mx, my⟩ := mem_zip hd
      obtain ⟨a, u1, u2, rfl, ha, d1, d2⟩ := hv.two
      refine ⟨a, [u1, u2], rfl, SqT.of (p2 _ _ ha), rfl, u1, [u2], rfl, u2, [], rfl, rfl, q _ rfl fun s M C cl fp => ?_⟩
      have o := ho x mx y (List.mem_of_mem_drop my)
      exact de_cmp (op_ltD hu) (rd_ltD o.1 o.2.1 o.2.2) (de_name 1 rfl d1) (de_name 2 rfl d2)
  · cases hd with
    | cons h1 h2 =>
      cases h2
      refine db_ret (de_allM (de_lc (own := [("item", 1), ("later", 2)]) (g := gTup _ 2 (gCons (gName 1) (gCons (gName 2) gNil))) (f := fun d => .bool (lt2 d))
        (di_zipT (de_name 0 rfl h1) ((de_cutT (de_name 0 rfl h1) (do_some de_int) do_none).to (by rw [cut_tail])) B.zip) zl rfl scAsc.nd (blkOk_by (N := ["items", "item", "later"]) (sc := defScope sAsc) (by decide +kernel))
        (fun _ _ _ _ _ => pg_tup rfl (pgs_cons (pg_name scAsc.nd rfl (.inl rfl)) (pgs_cons (pg_name scAsc.nd rfl (.inl rfl)) pgs_nil))) fun d hd v N K Q p1 p2 hv q => ?_) rfl B.all)
      obtain ⟨x, y, rfl, mx, my⟩ := mem_zip hd
      obtain ⟨a, u1, u2, rfl, ha, d1, d2⟩ := hv.two
      refine ⟨a, [u1, u2], rfl, SqT.of (p2 _ _ ha), rfl, u1, [u2], rfl, u2, [], rfl, rfl, q _ rfl fun s M C cl fp => ?_⟩
      have o := ho x mx y (List.mem_of_mem_drop my)
      exact de_cmp (op_ltD hu) (rd_ltD o.1 o.2.1 o.2.2) (de_name 1 rfl d1) (de_name 2 rfl d2)
/-- mirrors of the program's looks -/
def dWithin (d : PyData) (a b : Int) : Bool := dInt d && (decide (a ≤ intOf d) && decide (intOf d ≤ b))
def dNames : PyData → Bool
  | .tuple xs => xs.all dName && asc xs
  | _ => false
def isNone : PyData → Bool
  | .none => true
  | _ => false
def dCounter : PyData → Bool
  | .tuple [k, s] => dNames k && (!decide (((lenD k : Nat) : Int) = 0) && (isNone s || dWithin s 2 999))
  | _ => false
def dCounters : PyData → Bool
  | .tuple xs => decide (1 ≤ xs.length) && decide (xs.length ≤ 3) && xs.all dCounter
  | _ => false
theorem ok_within {fI : Addr} {dI : FuncData} (D : Df K mg "is_integer_within" sWithin ["value", "least", "most"] f fd) (B : Blt mg) (I : Df K mg "is_integer" sInt ["value"] fI dI) :
    FnG P w K mg base CX0 2 f fd ["value", "least", "most"] (spD 3 (fun ds => ∃ d a b, ds = [d, .int a, .int b]) fun ds => .bool (dWithin (ds.headD .none) (intOf (ds.getD 1 .none)) (intOf (ds.getD 2 .none)))) := by
  have kI := ok_int (P := P) (w := w) (base := base) I B
  refine fnD D.F scWithin rfl fun cdv A outer s H M vs ds E hg hr hd hl hp => ?_
  obtain ⟨d, a, b, rfl⟩ := hp
  cases hd with
  | cons h1 hd =>
  cases hd with
  | cons h2 hd =>
  cases hd with
  | cons h3 hd =>
  cases hd
  refine db_ret (de_and (k := dInt d) (de_call (d := .bool (dInt d)) kI hg hr I.g I.F.kp I.b (da_cons (de_name 0 rfl h1) da_nil) trivial rfl) fun hi => de_one ?_)
  obtain ⟨n, rfl⟩ := int_inv hi
  exact de_chain op_le op_le (de_name 1 rfl h2) (de_name 0 rfl h1) rd_le_int fun _ => ⟨de_name 2 rfl h3, rd_le_int⟩
theorem name_inv {d : PyData} (h : dName d = true) : ∃ x, d = .str x := by
  cases d with
  | str x => exact ⟨x, rfl⟩
  | _ => cases h
theorem names_ord {xs : List PyData} (h : xs.all dName = true) : Ord xs := fun x hx y hy => by
  obtain ⟨a, rfl⟩ := name_inv (List.all_eq_true.mp h x hx)
  obtain ⟨b, rfl⟩ := name_inv (List.all_eq_true.mp h y hy)
  exact ⟨rfl, (fun q => nomatch q), by rw [PyData.depth]; omega⟩
theorem ok_names {fN fA : Addr} {dN dA : FuncData} (D : Df K mg "are_names" sNames ["value"] f fd) (B : Blt mg) (Nm : Df K mg "is_name" sName ["value"] fN dN) (As : Df K mg "is_ascending" sAsc ["items"] fA dA) :
    FnG P w K mg base CX0 2 f fd ["value"] (spD 1 (fun ds => ∀ x ∈ ds, wt x ≤ 1000000) fun ds => .bool (dNames (ds.headD .none))) := by
  have kN := ok_name (P := P) (w := w) (base := base) Nm B
  have kA := ok_asc (P := P) (w := w) (base := base) As B
  refine fnD D.F scNames rfl fun cdv A outer s H M vs ds E hg hr hd hl hp => ?_
  obtain ⟨d, rfl⟩ := one_of hl
  cases hd with
  | cons h1 h2 =>
  cases h2
  have hw := hp d (List.mem_singleton.mpr rfl)
  cases hk : isTup d with
  | false =>
    refine db_ret (DE.to (d := .bool (false && false)) (de_and (de_isi (de_name 0 rfl h1) ((kit_tup d).trans (by rw [hk])) B.isi B.tuple) fun h => nomatch h) ?_)
    cases d with
    | tuple x => cases hk
    | _ => rfl
  | true =>
    cases d with
    | tuple xs =>
      rw [wt_tup] at hw
      have hlen : xs.length ≤ 1000000 := by
        have := wtL_len xs
        omega
      refine db_ret (DE.to (d := .bool (true && (xs.all dName && asc xs))) (de_and (de_isi (de_name 0 rfl h1) (kit_tup _) B.isi B.tuple) fun _ => de_and (k := xs.all dName) (k' := asc xs)
        (de_allM (de_lc (own := [("part", 1)]) (g := gName 1) (f := fun d => .bool (dName d)) (di_tup (de_name 0 rfl h1)) hlen rfl scNames.nd (blkOk_by (N := ["value", "part"]) (sc := defScope sNames) (by decide +kernel))
          (fun _ _ _ _ _ => pg_name scNames.nd rfl (.inl rfl)) fun d hd v N' K' Q p1 p2 hv q => q _ rfl fun s M' C cl fp => ?_) rfl B.all) fun ha => de_one ?_) rfl)
      · refine de_call (d := .bool (dName d)) kN hg hr Nm.g Nm.F.kp Nm.b (da_cons (de_name 1 rfl hv) da_nil) (fun x hx => ?_) rfl
        cases List.mem_singleton.mp hx
        have := wt_mem hd
        omega
      · exact de_call (d := .bool (asc xs)) kA hg hr As.g As.F.kp As.b (da_cons (de_name 0 rfl h1) da_nil) ⟨xs, .inr rfl, names_ord ha, hlen⟩ rfl
    | _ => cases hk
theorem rd_isN {d : PyData} : RD (fun x y H Q => y = .non ∧ Q (.bl (decide (x = .non))) H) d .none (.bool (isNone d)) := fun x y K N Q p hx hy q => by
  refine ⟨hy.none_inv, ?_⟩
  have e : decide (x = V.non) = isNone d := by
    cases hx <;> rfl
  rw [e]
  exact q _ _ N .rfl (.rfl p) (.bl _)
theorem two_of' {ds : List PyData} (h : ds.length = 2) : ∃ a b, ds = [a, b] := by
  match ds, h with
  | [a, b], _ => exact ⟨a, b, rfl⟩
theorem ok_counter {fR fS fW : Addr} {dR dS dW : FuncData} (D : Df K mg "_is_counter" sCounter ["value"] f fd) (B : Blt mg) (R : Df K mg "is_row" sRow ["value", "width"] fR dR) (Ns : Df K mg "are_names" sNames ["value"] fS dS) (Wi : Df K mg "is_integer_within" sWithin ["value", "least", "most"] fW dW)
    (kS : FnG P w K mg base CX0 2 fS dS ["value"] (spD 1 (fun ds => ∀ x ∈ ds, wt x ≤ 1000000) fun ds => .bool (dNames (ds.headD .none))))
    (kW : FnG P w K mg base CX0 2 fW dW ["value", "least", "most"] (spD 3 (fun ds => ∃ d a b, ds = [d, .int a, .int b]) fun ds => .bool (dWithin (ds.headD .none) (intOf (ds.getD 1 .none)) (intOf (ds.getD 2 .none))))) :
    FnG P w K mg base CX0 3 f fd ["value"] (spD 1 (fun ds => ∀ x ∈ ds, wt x ≤ 1000000) fun ds => .bool (dCounter (ds.headD .none))) := by
  have kR := (ok_row (P := P) (w := w) (base := base) R B).mono (show 1 ≤ 2 by decide)
  refine fnD D.F scCounter rfl fun cdv A outer s H M vs ds E hg hr hd hl hp => ?_
  obtain ⟨d, rfl⟩ := one_of hl
  cases hd with
  | cons h1 h2 =>
  cases h2
  have hw := hp d (List.mem_singleton.mpr rfl)
  cases hk : dRow d 2 with
  | false =>
    refine DB.to (d := .bool false) (db_if (k := true) (dt_of ((dw_or (k := true) (k' := true) ?_ fun q => nomatch q))) (fun _ => db_ret de_bl) (fun q => nomatch q)) ?_
    · refine DT.to (dt_not (dt_val (de_call (d := .bool (dRow d 2)) kR hg hr R.g R.F.kp R.b (da_cons (de_name 0 rfl h1) (da_cons de_int da_nil)) ⟨2, rfl⟩ rfl))) ?_
      rw [hk]
      rfl
    · show PyData.bool false = .bool (dCounter d)
      have e : dCounter d = false := by
        unfold dCounter
        split
        · exact absurd hk (by simp [dRow, isTup, lenD])
        · rfl
      rw [e]
  | true =>
    obtain ⟨es, rfl, hes⟩ := row_inv (n := 2) hk
    obtain ⟨a, b, rfl⟩ := two_of' hes
    rw [wt_tup] at hw
    have hwa := wt_mem (xs := [a, b]) (x := a) (by simp)
    refine DB.to (d := .bool (dNames a && (!decide (((lenD a : Nat) : Int) = 0) && (isNone b || dWithin b 2 999)))) (db_if (k := !dNames a || decide (((lenD a : Nat) : Int) = 0)) (dt_of (DW.to (dw_or (k := false) (k' := !dNames a || decide (((lenD a : Nat) : Int) = 0)) ?_
      fun _ => dw_or (k := !dNames a) (k' := decide (((lenD a : Nat) : Int) = 0)) ?_ fun hn => dw_or1 ?_) (by rw [Bool.false_or]))) (fun q => ?_) fun q => ?_) rfl
    · refine DT.to (dt_not (dt_val (de_call (d := .bool (dRow (.tuple [a, b]) 2)) kR hg hr R.g R.F.kp R.b (da_cons (de_name 0 rfl h1) (da_cons de_int da_nil)) ⟨2, rfl⟩ rfl))) ?_
      rw [hk]
      rfl
    · refine dt_not (dt_val (de_call (d := .bool (dNames a)) kS hg hr Ns.g Ns.F.kp Ns.b (da_cons (de_ix ix_tup (rd_ixT (k := 0) (d := a) rfl) (de_name 0 rfl h1) de_int) da_nil) (fun x hx => ?_) rfl))
      cases List.mem_singleton.mp hx
      omega
    · have hn' : dNames a = true := by simpa using hn
      refine dt_cmp op_eq rd_eq_int (de_len (de_ix ix_tup (rd_ixT (k := 0) (d := a) rfl) (de_name 0 rfl h1) de_int) ?_ B.len) de_int
      cases a with
      | tuple _ => rfl
      | _ => cases hn'
    · refine DB.to (db_ret (de_bl (w := false))) ?_
      cases hA : dNames a with
      | false => rfl
      | true =>
        rw [hA] at q
        have q' : decide (((lenD a : Nat) : Int) = 0) = true := by simpa using q
        rw [q']
        rfl
    · have q1 : dNames a = true := by
        cases hA : dNames a with
        | true => rfl
        | false => rw [hA] at q; cases q
      have q2 : decide (((lenD a : Nat) : Int) = 0) = false := by
        rw [q1] at q
        simpa using q
      rw [q1, q2]
      refine db_ret (de_or (k := isNone b) (k' := dWithin b 2 999) (de_cmp op_isN rd_isN (de_ix ix_tup (rd_ixT (k := 1) (d := b) rfl) (de_name 0 rfl h1) de_int) de_none) fun _ => de_one (de_call (d := .bool (dWithin b 2 999)) kW hg hr Wi.g Wi.F.kp Wi.b (da_cons (de_ix ix_tup (rd_ixT (k := 1) (d := b) rfl) (de_name 0 rfl h1) de_int) (da_cons de_int (da_cons de_int da_nil))) ⟨b, 2, 999, rfl⟩ rfl))
theorem ok_counters {fC : Addr} {dC : FuncData} (D : Df K mg "is_counters" sCounters ["value"] f fd) (B : Blt mg) (Co : Df K mg "_is_counter" sCounter ["value"] fC dC)
    (kC : FnG P w K mg base CX0 3 fC dC ["value"] (spD 1 (fun ds => ∀ x ∈ ds, wt x ≤ 1000000) fun ds => .bool (dCounter (ds.headD .none)))) :
    FnG P w K mg base CX0 4 f fd ["value"] (spD 1 (fun ds => ∀ x ∈ ds, wt x ≤ 1000000) fun ds => .bool (dCounters (ds.headD .none))) := by
  refine fnD D.F scCounters rfl fun cdv A outer s H M vs ds E hg hr hd hl hp => ?_
  obtain ⟨d, rfl⟩ := one_of hl
  cases hd with
  | cons h1 h2 =>
  cases h2
  have hw := hp d (List.mem_singleton.mpr rfl)
  cases hk : isTup d with
  | false =>
    refine db_ret (DE.to (d := .bool (false && false)) (de_and (de_isi (de_name 0 rfl h1) ((kit_tup d).trans (by rw [hk])) B.isi B.tuple) fun h => nomatch h) ?_)
    cases d with
    | tuple x => cases hk
    | _ => rfl
  | true =>
    cases d with
    | tuple xs =>
      rw [wt_tup] at hw
      have hlen : xs.length ≤ 1000000 := by
        have := wtL_len xs
        omega
      refine db_ret (DE.to (d := .bool (true && ((decide ((1 : Int) ≤ (xs.length : Nat)) && decide (((xs.length : Nat) : Int) ≤ 3)) && xs.all dCounter))) (de_and (de_isi (de_name 0 rfl h1) (kit_tup _) B.isi B.tuple) fun _ => de_and (k' := xs.all dCounter)
        (de_chain op_le op_le de_int (de_len (de_name 0 rfl h1) rfl B.len) rd_le_int fun _ => ⟨de_int, rd_le_int⟩) fun _ => de_one
        (de_allM (de_lc (own := [("part", 1)]) (g := gName 1) (f := fun d => .bool (dCounter d)) (di_tup (de_name 0 rfl h1)) hlen rfl scCounters.nd (blkOk_by (N := ["value", "part"]) (sc := defScope sCounters) (by decide +kernel))
          (fun _ _ _ _ _ => pg_name scCounters.nd rfl (.inl rfl)) fun d hd v N' K' Q p1 p2 hv q => q _ rfl fun s M' C cl fp => ?_) rfl B.all)) ?_)
      · refine de_call (d := .bool (dCounter d)) kC hg hr Co.g Co.F.kp Co.b (da_cons (de_name 1 rfl hv) da_nil) (fun x hx => ?_) rfl
        cases List.mem_singleton.mp hx
        have := wt_mem hd
        omega
      · show PyData.bool (true && _) = .bool (decide (1 ≤ xs.length) && decide (xs.length ≤ 3) && xs.all dCounter)
        have e1 : decide ((1 : Int) ≤ (xs.length : Nat)) = decide (1 ≤ xs.length) := by
          by_cases h : 1 ≤ xs.length
          · rw [decide_eq_true h, decide_eq_true (by omega)]
          · rw [decide_eq_false h, decide_eq_false (by omega)]
        have e2 : decide (((xs.length : Nat) : Int) ≤ 3) = decide (xs.length ≤ 3) := by
          by_cases h : xs.length ≤ 3
          · rw [decide_eq_true h, decide_eq_true (by omega)]
          · rw [decide_eq_false h, decide_eq_false (by omega)]
        rw [e1, e2, Bool.true_and]
    | _ => cases hk
/-- the checks, of what is right -/
theorem ok_checkC {fC : Addr} {dC : FuncData} (D : Df K mg "check_counters" sCheckC ["counters"] f fd) (Co : Df K mg "is_counters" sCounters ["value"] fC dC)
    (kC : FnG P w K mg base CX0 4 fC dC ["value"] (spD 1 (fun ds => ∀ x ∈ ds, wt x ≤ 1000000) fun ds => .bool (dCounters (ds.headD .none)))) :
    FnG P w K mg base CX0 5 f fd ["counters"] (spD 1 (fun ds => ∀ x ∈ ds, wt x ≤ 1000000 ∧ dCounters x = true) fun _ => .none) := by
  refine fnG D.F scCheckC (spD_len rfl) fun cdv A outer s H vs Q E hg hr ⟨ds, M, p, hd, hl, hp, q⟩ => WB.nox ?_
  obtain ⟨d, rfl⟩ := one_of hl
  cases hd with
  | cons h1 h2 =>
  cases h2
  have hw := hp d (List.mem_singleton.mpr rfl)
  refine .on (pss_one (ps_if eT eB pss_nil)) ?_
  refine DT.go (N := M) (b := false) ?_ p ?_
  · refine DT.to (dt_not (dt_val (de_call (d := .bool (dCounters d)) kC hg hr Co.g Co.F.kp Co.b (da_cons (de_name 0 rfl h1) da_nil) (fun x hx => ?_) rfl))) ?_
    · cases List.mem_singleton.mp hx
      exact hw.1
    · rw [hw.2]
      rfl
  · intro K2 p2
    rw [if_neg Bool.false_ne_true]
    exact q _ K2 M p2 ((Nw.rfl p).more p2) .non
end
end Q
end Fr

set_option Elab.async false
set_option linter.all false
set_option maxRecDepth 100000
set_option maxHeartbeats 1000000
set_option autoImplicit false
namespace Fr
open PySem PySem.Spec PyProof.Rows L2
section
variable {X : Cx} {z : L2.St} {H H' N : Hp} {e : Expr} {pos p : Pos} {d d' : PyData} {ds : List PyData}
theorem de_anyM {q : PyData → Bool} (he : DE X z H e (.list (ds.map fun d => .bool (q d)))) (hc : X.calm = true) (h1 : X.mg "any" = none) (g1 : Gl X "any" := by rfl) (hb : bootBuiltins "any" = some (.builtin "any") := by decide +kernel)
    (s1 : starEach [e] X.env = (false, eval e X.env) :: starEach [] X.env := by rfl) (s3 : (backTo pos (starEach [] X.env)).any (·.1) = false := by rfl) :
    DE X z H (.Call (.Name "any" p) [e] [] pos) (.bool (ds.any q)) := by
  rw [map_bool] at he
  rw [← any_map]
  exact de_any he hc h1 g1 hb s1 s3
theorem db_expr {rest : List Stmt} (h : DE X z H e d) (hr : ∀ N, Kp H N → DB X z N rest d') (hs : swapsWith e none pos.line X.env = pure false := by rfl) : DB X z H (.Expr e pos :: rest) d' := fun H1 p D q =>
  .on (pss_cons (ps_expr eE hs) eB) (h H1 p _ fun v H2 N p2 n hv => hr N n.lo H2 n.hi D fun v' H3 M p3 m hv' => q _ _ M (p2.tr p3) (n.tr p2 m) hv')
end
/-! counters as they are drawn -/
def cD (c : List Str × PyData) : PyData := .tuple [.tuple (c.1.map PyData.str), c.2]
def csD (cs : List (List Str × PyData)) : PyData := .tuple (cs.map cD)
def ksD (ks : List Str) : PyData := .tuple (ks.map PyData.str)
def hits (ks : List Str) (c : List Str × PyData) : Bool := ks.any fun k => c.1.any fun w => decide (w = k)
def shortB (cs : List (List Str × PyData)) (ks : List Str) : Bool := decide ((cs.filter (hits ks)).length < ks.length)
def txt : PyData → Str | .str x => x | _ => ""
def inKs (ks : List Str) (d : PyData) : Bool := ks.any fun w => isS w d
def hitD (ks : List PyData) : PyData → Bool
  | .tuple [.tuple ws, _] => ks.any fun k => (ws.map txt).any fun w => isS w k
  | _ => false
def fstD : PyData → PyData
  | .tuple [a, _] => a
  | _ => .none
def shortD (a b : PyData) : Bool := decide (((seqOf a).filter (hitD (seqOf b))).length < (seqOf b).length)
theorem txt_map (ws : List Str) : (ws.map PyData.str).map txt = ws := by
  rw [List.map_map]
  exact List.map_id' _
theorem hit_cD (ks : List Str) (c : List Str × PyData) : hitD (ks.map PyData.str) (cD c) = hits ks c := by
  obtain ⟨ws, s⟩ := c
  show ((ks.map PyData.str).any fun k => ((ws.map PyData.str).map txt).any fun w => isS w k) = hits ks (ws, s)
  rw [txt_map, List.any_map]
  rfl
theorem short_csD (cs : List (List Str × PyData)) (ks : List Str) : shortD (csD cs) (ksD ks) = shortB cs ks := by
  unfold shortD shortB
  show decide (((cs.map cD).filter (hitD (ks.map PyData.str))).length < (ks.map PyData.str).length) = _
  rw [List.filter_map, List.length_map, List.length_map]
  congr 4
  funext c
  exact hit_cD ks c
def showsB (cs : List (List Str × PyData)) (ks : List Str) (d : PyData) : Bool := Q.dNames d && ((seqOf d).all (inKs ks) && shortB cs ((seqOf d).map txt))
namespace Q
abbrev sCheckK : Stmt := topS 17
abbrev sShort : Stmt := topS 21
abbrev sShows : Stmt := topS 23
abbrev nShort : List Str := ["counters", "kinds", "able", "_", "kind", "helpful"]
abbrev nShows : List Str := ["counters", "kinds", "value", "kind"]
theorem scCheckK : FnScope ["kinds"] ["kinds"] (defScope sCheckK) := ⟨rfl, rfl, rfl, by decide +kernel, rfl, by decide +kernel, by decide +kernel⟩
theorem scShort : FnScope nShort ["counters", "kinds"] (defScope sShort) := ⟨rfl, rfl, rfl, by decide +kernel, rfl, by decide +kernel, by decide +kernel⟩
theorem scShows : FnScope nShows ["counters", "kinds", "value"] (defScope sShows) := ⟨rfl, rfl, rfl, by decide +kernel, rfl, by decide +kernel, by decide +kernel⟩
section
variable {P : Program} {w : World} {K : PySem.W.Frag} {mg : Str → Option Value} {base : Heap} {f : Addr} {fd : FuncData}
theorem ok_checkK {fC : Addr} {dC : FuncData} (D : Df K mg "_check_kinds" sCheckK ["kinds"] f fd) (Co : Df K mg "are_names" sNames ["value"] fC dC)
    (kC : FnG P w K mg base CX0 2 fC dC ["value"] (spD 1 (fun ds => ∀ x ∈ ds, wt x ≤ 1000000) fun ds => .bool (dNames (ds.headD .none)))) :
    FnG P w K mg base CX0 3 f fd ["kinds"] (spD 1 (fun ds => ∀ x ∈ ds, wt x ≤ 1000000 ∧ dNames x = true) fun _ => .none) := by
  refine fnG D.F scCheckK (spD_len rfl) fun cdv A outer s H vs Q E hg hr ⟨ds, M, p, hd, hl, hp, q⟩ => WB.nox ?_
  obtain ⟨d, rfl⟩ := one_of hl
  cases hd with
  | cons h1 h2 =>
  cases h2
  have hw := hp d (List.mem_singleton.mpr rfl)
  refine .on (pss_one (ps_if eT eB pss_nil)) ?_
  refine DT.go (N := M) (b := false) ?_ p ?_
  · refine DT.to (dt_not (dt_val (de_call (d := .bool (dNames d)) kC hg hr Co.g Co.F.kp Co.b (da_cons (de_name 0 rfl h1) da_nil) (fun x hx => ?_) rfl))) ?_
    · cases List.mem_singleton.mp hx
      exact hw.1
    · rw [hw.2]
      rfl
  · intro K2 p2
    rw [if_neg Bool.false_ne_true]
    exact q _ K2 M p2 ((Nw.rfl p).more p2) .non
theorem any_str (q : PyData → Bool) (ks : List Str) : (ks.map PyData.str).any q = ks.any fun k => q (.str k) := by
  rw [List.any_map]
  rfl
theorem ok_short (D : Df K mg "_is_short" sShort ["counters", "kinds"] f fd) (B : Blt mg) (hany : mg "any" = none) :
    FnG P w K mg base CX0 1 f fd ["counters", "kinds"] (spD 2 (fun ds => ∃ cs ks, ds = [csD cs, ksD ks] ∧ cs.length ≤ 1000 ∧ ks.length ≤ 100000) fun ds => .bool (shortD (ds.headD .none) (ds.getD 1 .none))) := by
  refine fnD D.F scShort rfl fun cdv A outer s H M vs ds E hg hr hd hl hp => ?_
  obtain ⟨cs, ks, rfl, hcs, hks⟩ := hp
  cases hd with
  | cons h1 hd =>
  cases hd with
  | cons h2 hd =>
  cases hd
  have nd := scShort.nd
  have hu : (A.deeper (envOfC "_is_short" (defScope sShort) s.heap.objs.size f cdv)).units + 64 < cLine := hr.units
  refine DB.to (d := .bool (decide (((((cs.map cD).filter (hitD (ks.map PyData.str))).map fstD).length : Int) < ((ks.map PyData.str).length : Int)))) (db_setLcIf 5 (own := [("able", 2), ("_", 3)]) (g := gTup _ 2 (gCons (gName 2) (gCons (gName 3) gNil))) (f := fstD) (q := hitD (ks.map PyData.str)) (di_tup (de_name 0 rfl h1)) (by rw [List.length_map]; omega) rfl nd (blkOk_by (N := nShort) (sc := defScope sShort) (by decide +kernel))
    (fun _ _ _ _ _ => pg_tup rfl (pgs_cons (pg_name nd rfl (.inr rfl)) (pgs_cons (pg_name nd rfl (.inl rfl)) pgs_nil))) (fun d hd v N' K' Q p1 p2 hv q => ?_) (fun _ => rfl) fun v N' pN hv => ?_) ?_
  · obtain ⟨⟨ws, sz⟩, hm, rfl⟩ := List.mem_map.mp hd
    obtain ⟨a, u1, u2, rfl, ha, d1, d2⟩ := hv.two
    refine ⟨a, [u1, u2], rfl, SqT.of (p2 _ _ ha), rfl, u1, [u2], rfl, u2, [], rfl, rfl, q _ rfl fun s M' C cl fp => ⟨?_, fun _ => ?_⟩⟩
    · refine dt_val (DE.to (d := .bool ((ks.map PyData.str).any fun k => ws.any fun w => isS w k)) (de_anyM (de_lc (own := [("kind", 4)]) (g := gName 4) (f := fun k => .bool (ws.any fun w => isS w k)) (di_tup (de_name 1 rfl ((h2.kp p1)))) (by rw [List.length_map]; omega) rfl nd ?_
        (fun _ _ _ _ _ => pg_name nd rfl (.inl rfl)) fun d hd v N'' K'' Q p1' p2' hv q' => q' _ rfl fun s M'' C cl fp => ?_) rfl hany) ?_)
      · exact blkOk_by (N := nShort) rfl
      · exact de_cmp (op_inW hu) (rd_inW rfl) (de_name 4 rfl hv) (de_name 2 rfl (d1.kp p1'))
      · show PyData.bool _ = .bool ((ks.map PyData.str).any fun k => ((ws.map PyData.str).map txt).any fun w => isS w k)
        rw [txt_map]
    · exact de_name 2 rfl d1
  · exact db_ret (de_cmp op_gt rd_gt_int (de_len (de_name 1 rfl (h2.kp pN)) rfl B.len) (de_len (de_name 5 rfl hv) rfl B.len))
  · show PyData.bool _ = .bool (decide (((cs.map cD).filter (hitD (ks.map PyData.str))).length < (ks.map PyData.str).length))
    rw [List.length_map]
    congr 1
    by_cases h : ((cs.map cD).filter (hitD (ks.map PyData.str))).length < (ks.map PyData.str).length
    · rw [decide_eq_true h, decide_eq_true (by omega)]
    · rw [decide_eq_false h, decide_eq_false (by omega)]
theorem inS_str (ks : List Str) (d : PyData) : (ks.any fun w => isS w d) = inKs ks d := rfl
theorem names_strs {xs : List PyData} (h : xs.all dName = true) : xs = (xs.map txt).map PyData.str := by
  induction xs with
  | nil => rfl
  | cons x r ih =>
    rw [List.all_cons, Bool.and_eq_true] at h
    obtain ⟨y, rfl⟩ := name_inv h.1
    rw [List.map_cons, List.map_cons, ← ih h.2]
    rfl
def preShows (ds : List PyData) : Prop := ∃ cs ks d, ds = [csD cs, ksD ks, d] ∧ cs.length ≤ 1000 ∧ ks.length ≤ 1000 ∧ dCounters (csD cs) = true ∧ wt (csD cs) ≤ 1000000 ∧ dNames (ksD ks) = true ∧ wt (ksD ks) ≤ 1000000 ∧ wt d ≤ 10000
def showsD (a b d : PyData) : Bool := dNames d && ((seqOf d).all (fun x => ((seqOf b).map txt).any fun w => isS w x) && shortD a d)
theorem ok_shows {fC fK fN fS : Addr} {dC dK dN dS : FuncData} (D : Df K mg "shows_short" sShows ["counters", "kinds", "value"] f fd) (B : Blt mg)
    (Cc : Df K mg "check_counters" sCheckC ["counters"] fC dC) (Ck : Df K mg "_check_kinds" sCheckK ["kinds"] fK dK) (Ns : Df K mg "are_names" sNames ["value"] fN dN) (Sh : Df K mg "_is_short" sShort ["counters", "kinds"] fS dS)
    (kC : FnG P w K mg base CX0 5 fC dC ["counters"] (spD 1 (fun ds => ∀ x ∈ ds, wt x ≤ 1000000 ∧ dCounters x = true) fun _ => .none))
    (kK : FnG P w K mg base CX0 3 fK dK ["kinds"] (spD 1 (fun ds => ∀ x ∈ ds, wt x ≤ 1000000 ∧ dNames x = true) fun _ => .none))
    (kN : FnG P w K mg base CX0 2 fN dN ["value"] (spD 1 (fun ds => ∀ x ∈ ds, wt x ≤ 1000000) fun ds => .bool (dNames (ds.headD .none))))
    (kS : FnG P w K mg base CX0 1 fS dS ["counters", "kinds"] (spD 2 (fun ds => ∃ cs ks, ds = [csD cs, ksD ks] ∧ cs.length ≤ 1000 ∧ ks.length ≤ 100000) fun ds => .bool (shortD (ds.headD .none) (ds.getD 1 .none)))) :
    FnG P w K mg base CX0 6 f fd ["counters", "kinds", "value"] (spD 3 preShows fun ds => .bool (showsD (ds.headD .none) (ds.getD 1 .none) (ds.getD 2 .none))) := by
  refine fnD D.F scShows rfl fun cdv A outer s H M vs ds E hg hr hd hl hp => ?_
  obtain ⟨cs, ks, d, rfl, hcs, hks, c1, c2, k1, k2, hw⟩ := hp
  cases hd with
  | cons h1 hd =>
  cases hd with
  | cons h2 hd =>
  cases hd with
  | cons h3 hd =>
  cases hd
  have nd := scShows.nd
  have hu : (A.deeper (envOfC "shows_short" (defScope sShows) s.heap.objs.size f cdv)).units + 64 < cLine := hr.units
  refine db_expr (d := .none) (de_call kC hg hr Cc.g Cc.F.kp Cc.b (da_cons (de_name 0 rfl h1) da_nil) (fun x hx => ?_) rfl) fun N1 p1 => ?_
  · cases List.mem_singleton.mp hx
    exact ⟨c2, c1⟩
  refine db_expr (d := .none) (de_call kK hg (hr.mono (by decide)) Ck.g Ck.F.kp Ck.b (da_cons (de_name 1 rfl (h2.kp p1)) da_nil) (fun x hx => ?_) rfl) fun N2 p2 => ?_
  · cases List.mem_singleton.mp hx
    exact ⟨k2, k1⟩
  have g1 := h1.kp (p1.tr p2)
  have g2 := h2.kp (p1.tr p2)
  have g3 := h3.kp (p1.tr p2)
  refine db_ret (DE.to (d := .bool (dNames d && ((seqOf d).all (inKs ks) && shortD (csD cs) d))) (de_and (k' := (seqOf d).all (inKs ks) && shortD (csD cs) d) (de_call (d := .bool (dNames d)) kN hg (hr.mono (by decide)) Ns.g Ns.F.kp Ns.b (da_cons (de_name 2 rfl g3) da_nil) (fun x hx => ?_) rfl) fun hn => ?_) ?_)
  · cases List.mem_singleton.mp hx
    omega
  · obtain ⟨xs, rfl, hall⟩ : ∃ xs, d = .tuple xs ∧ xs.all dName = true := by
      cases d with
      | tuple xs =>
        have hn' : (xs.all dName && asc xs) = true := hn
        rw [Bool.and_eq_true] at hn'
        exact ⟨xs, rfl, hn'.1⟩
      | _ => cases hn
    rw [wt_tup] at hw
    have hlen : xs.length ≤ 100000 := by
      have := wtL_len xs
      omega
    refine de_and (k := xs.all (inKs ks)) (k' := shortD (csD cs) (.tuple xs)) (de_allM (de_lc (own := [("kind", 3)]) (g := gName 3) (f := fun d => .bool (inKs ks d)) (di_tup (de_name 2 rfl g3)) (by omega) rfl nd (blkOk_by (N := nShows) (sc := defScope sShows) (by decide +kernel))
        (fun _ _ _ _ _ => pg_name nd rfl (.inl rfl)) fun d hd v N'' K'' Q p1' p2' hv q' => q' _ rfl fun s M'' C cl fp => ?_) rfl B.all) fun _ => de_one ?_
    · exact de_cmp (op_inW hu) (rd_inW rfl) (de_name 3 rfl hv) (de_name 1 rfl (g2.kp p1'))
    · have e := names_strs hall
      refine de_call (d := .bool (shortD (csD cs) (.tuple xs))) kS hg (hr.mono (by decide)) Sh.g Sh.F.kp Sh.b (da_cons (de_name 0 rfl g1) (da_cons (de_name 2 rfl g3) da_nil)) ⟨cs, xs.map txt, ?_, hcs, by rw [List.length_map]; exact hlen⟩ rfl
      show [csD cs, PyData.tuple xs] = [csD cs, .tuple ((xs.map txt).map PyData.str)]
      rw [← e]
  · show PyData.bool _ = .bool (dNames d && ((seqOf d).all (fun x => ((ks.map PyData.str).map txt).any fun w => isS w x) && shortD (csD cs) d))
    rw [txt_map]
    rfl
end
end Q
end Fr

set_option Elab.async false
set_option linter.all false
set_option maxRecDepth 100000
set_option maxHeartbeats 1000000
set_option autoImplicit false
namespace Fr
open PySem PySem.Spec PyProof.Rows L2
/-! a text in a tuple of texts and Nones -/
def optD : Option Str → PyData
  | none => .none
  | some x => .str x
def optV : Option Str → V
  | none => .non
  | some x => .str x
def optOf : Value → Option Str
  | .str x _ => some x
  | _ => none
theorem DatL.opts {H : Hp} : ∀ {xs : List V} {os : List (Option Str)}, DatL H xs (os.map optD) → xs = os.map optV
  | _, [], h => by cases h; rfl
  | _, none :: os, h => by
    cases h with
    | cons h1 h2 => rw [Dat.none_inv (show Dat H _ .none from h1), DatL.opts h2]; rfl
  | _, some x :: os, h => by
    cases h with
    | cons h1 h2 => rw [Dat.str_inv (show Dat H _ (.str x) from h1), DatL.opts h2]; rfl
theorem any_opt (f : Option Str → Bool) : ∀ {os : List (Option Str)} {us : List Value}, Vals (os.map optV) us → (us.any fun u => f (optOf u)) = os.any f
  | [], _, r => by cases r; rfl
  | none :: os, _, r => by
    cases r with
    | cons r1 r2 =>
      have r1' : RelV V.non _ := r1
      cases r1'
      rw [List.any_cons, List.any_cons, any_opt f r2]
      rfl
  | some x :: os, _, r => by
    cases r with
    | cons r1 r2 =>
      obtain ⟨t, rfl⟩ := (show RelV (.str x) _ from r1)
      rw [List.any_cons, List.any_cons, any_opt f r2]
      rfl
theorem opt_mem : ∀ {os : List (Option Str)} {us : List Value} {u : Value}, Vals (os.map optV) us → u ∈ us → u = .none ∨ ∃ w t, u = .str w t
  | [], _, _, r, h => by cases r; cases h
  | none :: os, _, _, r, h => by
    cases r with
    | cons r1 r2 =>
      have r1' : RelV V.non _ := r1
      cases r1'
      rcases List.mem_cons.mp h with e | h
      · exact .inl e
      · exact opt_mem r2 h
  | some x :: os, _, _, r, h => by
    cases r with
    | cons r1 r2 =>
      obtain ⟨t, rfl⟩ := (show RelV (.str x) _ from r1)
      rcases List.mem_cons.mp h with e | h
      · exact .inr ⟨x, t, e⟩
      · exact opt_mem r2 h
def rInO : R2 := fun x y H Q => ∃ (k : Str) (a : Addr) (os : List (Option Str)), x = .str k ∧ y = .ref a ∧ H a = some (.tup (os.map optV)) ∧ Q (.bl (os.any fun o => decide (o = some k))) H
section
variable {X : Cx} {pins : List (Addr × Obj)} {s : Shared}
theorem op_inO (hu : X.A.units + 64 < cLine) : OpR X (compareOp .In) rInO := by
  intro pins s σ H x y v u Q I rx ry h
  obtain ⟨k, a, os, rfl, rfl, ha, q⟩ := h
  cases ry
  obtain ⟨t, rfl⟩ := rx
  obtain ⟨_, its, rv, ht⟩ := I.hok _ _ ha
  refine SeqAt.in_tupleAt (fun y => decide (optOf y = some k)) ht (fun y hy => ?_) ⟨.bl _, H, I, rfl, ?_⟩
  · rcases opt_mem rv (by simpa using hy) with rfl | ⟨w, t', rfl⟩
    · exact SeqAt.EqAt.none_str k t
    · have e := SeqAt.EqAt.str_str (A := X.A.in1) (s := s) w t' k t
      have q : decide (optOf (.str w t') = some k) = (w == k) := by
        show decide (some w = some k) = (w == k)
        by_cases h : w = k
        · subst h; simp
        · rw [decide_eq_false (fun q => h (Option.some.inj q))]
          exact (beq_eq_false_iff_ne.mpr h).symm
      rw [q]
      exact e
  · have e := any_opt (fun o => decide (o = some k)) rv
    rw [← Array.any_toList, e]
    exact q
theorem rd_inO {os : List (Option Str)} {k : Str} : RD rInO (.str k) (.tuple (os.map optD)) (.bool (os.any fun o => decide (o = some k))) := fun x y K N Q p hx hy q => by
  obtain ⟨l, xs, rfl, hl, hd⟩ := hy.tup_inv
  exact ⟨k, l, os, hx.str_inv, rfl, by rw [p _ _ hl, hd.opts], q _ _ N .rfl (.rfl p) (.bl _)⟩
end

/-! a comprehension over two lists -/
section
variable {X : Cx} {z : L2.St} {H : Hp} {pos : Pos} {ds es : List PyData}
theorem lc2_coreD {elt : Expr} {scope : Scope} {vs vs1 : List Nat} {g g1 : TG} {w w1 : TI} {f : PyData → PyData → PyData} (hi : ∀ H1, Kp H H1 → ∀ R : It → Hp → Prop, (∀ J H2 N, Kp H1 H2 → Nw H H1 N H2 → ItD J N ds → R J H2) → w z H1 R)
    (hl : ds.length * es.length ≤ 1000000)
    (he : ∀ d ∈ ds, ∀ (v : V) (N K : Hp) (Q : L2.St → Hp → Prop), Kp H N → Kp N K → Dat N v d → (∀ z2, wipe z2 vs = wipe z vs →
      (∀ H1, Kp N H1 → ∀ R : It → Hp → Prop, (∀ J H2 M, Kp H1 H2 → Nw N H1 M H2 → ItD J M es → R J H2) → w1 z2 H1 R) →
      (∀ e ∈ es, ∀ (v' : V) (N' K' : Hp) (Q' : L2.St → Hp → Prop), Kp N N' → Kp N' K' → Dat N' v' e → (∀ z3, wipe z3 vs1 = wipe z2 vs1 →
        (∀ (s : Shared) (M : Hp) (C : Addr) (cl : List (Str × Addr)) (fp : List Addr), DE (X.blk s M scope (compEnvC scope cl C X.env) fp) z3 N' elt (f d e)) → Q' z3 K') → g1 v' (wipe z2 vs1) K' Q') → Q z2 K) → g v (wipe z vs) K Q)
    {H1 : Hp} (p : Kp H H1) {Q : VK} (qq : ∀ v H2 N, Kp H1 H2 → Nw H H1 N H2 → Dat N v (.list (ds.flatMap fun d => es.map (f d))) → Q v H2) :
    tLc2 w g tYes w1 g1 tYes (fun z2 K Q => ∀ (s : Shared) (M : Hp) (C : Addr) (cl : List (Str × Addr)) (fp : List Addr), WE (X.blk s M scope (compEnvC scope cl C X.env) fp) z2 K elt Q) vs vs1 z H1 Q := by
  refine hi H1 p _ fun J H2 N p2 n it => ?_
  intro D hD
  have hND : N D = none := n.hi.none hD
  have hH1D : H1 D = none := p2.none hD
  have flen : ∀ i, ((ds.take i).flatMap fun d => es.map (f d)).length = (min i ds.length) * es.length := by
    intro i
    rw [← List.length_take]
    generalize ds.take i = xs
    induction xs with
    | nil => simp
    | cons x r ih => rw [List.flatMap_cons, List.length_append, ih, List.length_map, List.length_cons, Nat.succ_mul, Nat.add_comm]
  let R : Nat → Hp → Prop := fun i K => i ≤ ds.length ∧ Kp H2 K ∧ ∃ ys M, K D = some (.lst ys) ∧ M D = none ∧ Nw H H1 M K ∧ DatL M ys ((ds.take i).flatMap fun d => es.map (f d))
  refine ⟨fun i m K => m = ds.length - i ∧ R i K, ⟨ds.length, by omega, by omega, .new hD, [], H, upd_same, p.none hH1D, (Nw.rfl p).more (p2.tr (.new hD)), by rw [List.take_zero]; exact .nil⟩, ?_⟩
  rintro i m K ⟨rfl, hil, kp, ys, M, hy, hMD, hM, hdy⟩
  by_cases hlt : i < ds.length
  · have hd : ds[i]? = some ds[i] := List.getElem?_eq_getElem hlt
    obtain ⟨hgo, hyl⟩ := (it i K (n.hi.tr kp)).1 _ hd
    refine .inr ⟨hgo, R (i + 1), fun K' h => ⟨ds.length - (i + 1), by omega, rfl, h⟩, fun x K' hx => ?_⟩
    obtain ⟨k1, N1, n1, hdx⟩ := hyl x K' hx
    refine he _ (List.getElem_mem hlt) x N1 K' _ (n.lo.tr n1.lo) n1.hi hdx fun z2 hw2 hW1 hE => ⟨hw2, ?_⟩
    unfold tYes
    dsimp only
    rw [if_pos rfl]
    refine hW1 K' n1.hi _ fun J1 H4 M1 p4 n4 it1 => ?_
    have hKD : K D ≠ none := by rw [hy]; exact fun q => nomatch q
    have hK'D : K' D ≠ none := by rw [k1 _ _ hy]; exact fun q => nomatch q
    have hN1D : N1 D = none := n1.off D hND hKD
    have hM1D : M1 D = none := n4.off D hN1D hK'D
    have tk : ((ds.take (i + 1)).flatMap fun d => es.map (f d)) = ((ds.take i).flatMap fun d => es.map (f d)) ++ es.map (f ds[i]) := by
      rw [List.take_add_one, hd, List.flatMap_append]
      simp
    let T : Nat → Hp → Prop := fun j K => j ≤ es.length ∧ (Kp M1 K ∧ Kp H2 K) ∧ ∃ ys M, K D = some (.lst ys) ∧ M D = none ∧ Nw H H1 M K ∧ DatL M ys (((ds.take i).flatMap fun d => es.map (f d)) ++ (es.take j).map (f ds[i]))
    refine ⟨fun j m K => m = es.length - j ∧ T j K, ⟨es.length, by omega, by omega, ⟨n4.hi, kp.tr (k1.tr p4)⟩, ys, M, p4 _ _ (k1 _ _ hy), hMD, hM.more (k1.tr p4), by rw [List.take_zero, List.map_nil, List.append_nil]; exact hdy⟩, ?_⟩
    rintro j m K5 ⟨rfl, hjl, ⟨kp5, kh5⟩, ys5, M5, hy5, hMD5, hM5, hdy5⟩
    by_cases hjt : j < es.length
    · have hed : es[j]? = some es[j] := List.getElem?_eq_getElem hjt
      obtain ⟨hgo1, hyl1⟩ := (it1 j K5 kp5).1 _ hed
      refine .inr ⟨hgo1, T (j + 1), fun K' h => ⟨es.length - (j + 1), by omega, rfl, h⟩, fun x1 K6 hx1 => ?_⟩
      obtain ⟨k6, N6, n6, hdx1⟩ := hyl1 x1 K6 hx1
      refine hE _ (List.getElem_mem hjt) x1 N6 K6 _ (n4.lo.tr n6.lo) n6.hi hdx1 fun z3 hw3 hEl => ⟨hw3, ?_⟩
      rw [if_pos rfl]
      intro s M0 C cl fp
      refine hEl s M0 C cl fp K6 n6.hi _ fun y K7 N7 k7 n7 hdat => ?_
      have hK5D : K5 D ≠ none := by rw [hy5]; exact fun q => nomatch q
      have hN6D : N6 D = none := n6.off D hM1D hK5D
      have hN7D : N7 D = none := n7.off D hN6D (by rw [k6 _ _ hy5]; exact fun q => nomatch q)
      have k57 : Kp K5 K7 := k6.tr k7
      have mK : Kp M5 K7 := hM5.hi.tr k57
      have hUD : uni M5 N7 D = none := uni_no hMD5 hN7D
      have up : ∀ {A : Hp}, A D = none → Kp A K7 → Kp A (upd K7 D (.lst (ys5 ++ [y]))) := fun {A} hA q b o e => by
        have hb : b ≠ D := fun z => by rw [z, hA] at e; cases e
        rw [upd_ne hb]
        exact q b o e
      refine ⟨ys5, k57 _ _ hy5, ?_, hjt, ?_, ys5 ++ [y], uni M5 N7, upd_same, hUD, ⟨hM5.lo.tr uni_l, up hUD (uni_in mK n7.hi), fun a h h1 => ?_⟩, ?_⟩
      · have e1 := hdy5.len
        rw [List.length_append, flen, List.length_map, List.length_take] at e1
        have e2 : (min i ds.length) * es.length + es.length ≤ ds.length * es.length := by
          rw [← Nat.succ_mul]
          exact Nat.mul_le_mul_right _ (by omega)
        have := big_of hl
        omega
      · exact ⟨up hM1D (kp5.tr k57), up hD (kh5.tr k57)⟩
      · have e1 : N a = none := n.off a h h1
        have ne : ∀ {L : Hp}, Kp H1 L → L a ≠ none := fun q e => h1 (q.none e)
        have k0 : Kp H1 K := p2.tr kp
        have e2 : N1 a = none := n1.off a e1 (ne k0)
        have e3 : M1 a = none := n4.off a e2 (ne (k0.tr k1))
        have e4 : N6 a = none := n6.off a e3 (ne (p2.tr kh5))
        exact uni_no (hM5.off a h h1) (n7.off a e4 (ne ((p2.tr kh5).tr k6)))
      · rw [List.take_add_one, hed, List.map_append, ← List.append_assoc]
        exact (hdy5.kp uni_l).app (.cons (hdat.kp (uni_r mK n7.hi)) .nil)
    · have e : j = es.length := by omega
      rw [e, List.take_length, ← tk] at hdy5
      exact .inl ⟨(it1 j K5 kp5).2 e, hlt, kh5, ys5, M5, hy5, hMD5, hM5, hdy5⟩
  · have e : i = ds.length := by omega
    refine .inl ⟨(it i K (n.hi.tr kp)).2 (by omega), ?_⟩
    rw [e, List.take_length] at hdy
    refine qq _ _ (upd M D (.lst ys)) (p2.tr kp) ⟨hM.lo.tr (.new hMD), fun b o e => ?_, fun b h h1 => ?_⟩ (.lst upd_same (hdy.kp (.new hMD)))
    · by_cases hb : b = D
      · subst hb
        rw [upd_same] at e
        rw [hy]
        exact e
      · rw [upd_ne hb] at e
        exact hM.hi _ _ e
    · have hb : b ≠ D := fun z => h1 (z ▸ hH1D)
      rw [upd_ne hb]
      exact hM.off b h h1
theorem db_setLc2 (i : Nat) {elt tg iter tg1 iter1 : Expr} {y : Str} {py spos : Pos} {rest : List Stmt} {d' : PyData} {scope : Scope} {own : List (Str × Nat)} {vs1 : List Nat} {g g1 : TG} {w1 : TI} {f : PyData → PyData → PyData} (hi : DI X z H tg iter ds) (hl : ds.length * es.length ≤ 1000000)
    (hc : X.calm = true) (hN : X.N.Nodup) (ok : BlkOk X.N X.env.scope scope own) (hv : ∀ i ∈ vs1, i ∈ own.map (·.2))
    (hg : ∀ (s : Shared) (K : Hp) (C : Addr) (cl : List (Str × Addr)) (fp : List Addr), PG (X.blk s K scope (compEnvC scope cl C X.env) fp) tg g)
    (hi1 : ∀ (s : Shared) (H : Hp) (C : Addr) (cl : List (Str × Addr)) (fp : List Addr), PI (X.blk s H scope (compEnvC scope cl C X.env) fp) tg1 iter1 w1)
    (hg1 : ∀ (s : Shared) (K : Hp) (C : Addr) (cl : List (Str × Addr)) (fp : List Addr), PG (X.blk s K scope (compEnvC scope cl C X.env) fp) tg1 g1)
    (he : ∀ d ∈ ds, ∀ (v : V) (N K : Hp) (Q : L2.St → Hp → Prop), Kp H N → Kp N K → Dat N v d → (∀ z2, wipe z2 (own.map (·.2)) = wipe z (own.map (·.2)) →
      (∀ H1, Kp N H1 → ∀ R : It → Hp → Prop, (∀ J H2 M, Kp H1 H2 → Nw N H1 M H2 → ItD J M es → R J H2) → w1 z2 H1 R) →
      (∀ e ∈ es, ∀ (v' : V) (N' K' : Hp) (Q' : L2.St → Hp → Prop), Kp N N' → Kp N' K' → Dat N' v' e → (∀ z3, wipe z3 vs1 = wipe z2 vs1 →
        (∀ (s : Shared) (M : Hp) (C : Addr) (cl : List (Str × Addr)) (fp : List Addr), DE (X.blk s M scope (compEnvC scope cl C X.env) fp) z3 N' elt (f d e)) → Q' z3 K') → g1 v' (wipe z2 vs1) K' Q') → Q z2 K) → g v (wipe z (own.map (·.2))) K Q)
    (hs : ∀ x, foldedSetIterable iter X.env x = pure x) (hs1 : ∀ env x, foldedSetIterable iter1 env x = pure x)
    (hb : ∀ v N, Kp H N → Dat N v (.list (ds.flatMap fun d => es.map (f d))) → DB X (z.set i (some v)) N rest d') (hy : X.N[i]? = some y := by rfl) (hyl : X.env.scope.names.lookup y = some .local := by rfl)
    (hsw : swapsWith (.ListComp elt [⟨tg, iter, [], 0⟩, ⟨tg1, iter1, [], 0⟩] scope pos) (some (.Name y py)) spos.line X.env = pure true := by rfl) :
    DB X z H (.Assign [.Name y py] (.ListComp elt [⟨tg, iter, [], 0⟩, ⟨tg1, iter1, [], 0⟩] scope pos) spos :: rest) d' := fun H1 p D qq => by
  obtain ⟨w, hw, hi⟩ := hi
  refine .on (pss_cons (ps_setLc2 (te := fun z2 K Q => ∀ (s : Shared) (M : Hp) (C : Addr) (cl : List (Str × Addr)) (fp : List Addr), WE (X.blk s M scope (compEnvC scope cl C X.env) fp) z2 K elt Q) (own := own) (vs1 := vs1) hc hN hy hyl hsw hw ok hv hg (fun _ _ _ _ _ => pts_nil) hi1 hg1 (fun _ _ _ _ _ => pts_nil)
    (fun s M C cl fp => ⟨fun pins s' z2 K Q I h => h s M C cl fp pins s' I⟩) hs hs1) eB) ?_
  unfold tSeq tAsg
  dsimp only
  refine lc2_coreD hi hl he p fun v H2 N p2 n hv => ?_
  exact hb v N n.lo hv H2 n.hi D fun v' H3 M p3 m hv' => qq _ _ M (p2.tr p3) (n.tr p2 m) hv'
end
end Fr

set_option Elab.async false
set_option linter.all false
set_option maxRecDepth 100000
set_option maxHeartbeats 1000000
set_option autoImplicit false
namespace Fr
open PySem PySem.Spec PyProof.Rows L2
/-- all rows of some of them, in order -/
def partsF (ks : List Str) : List (List Str) := ks.foldl (fun acc k => acc ++ acc.map fun v => v ++ [k]) [[]]
theorem parts_snoc (ks : List Str) (k : Str) : partsF (ks ++ [k]) = partsF ks ++ (partsF ks).map fun v => v ++ [k] := by
  unfold partsF
  rw [List.foldl_append]
  rfl
theorem parts_len (n : Nat) : ∀ ks : List Str, ks.length = n → (partsF ks).length = 2 ^ n := by
  induction n with
  | zero =>
    intro ks h
    rw [List.length_eq_zero_iff.mp h]
    rfl
  | succ n ih =>
    intro ks h
    have hne : ks ≠ [] := fun e => by rw [e] at h; cases h
    have e := (List.dropLast_concat_getLast hne).symm
    have h2 : ks.dropLast.length = n := by rw [List.length_dropLast]; omega
    rw [e, parts_snoc, List.length_append, List.length_map, ih _ h2, Nat.pow_succ]
    omega
theorem parts_mem : ∀ (n : Nat) (ks : List Str), ks.length = n → ∀ v ∈ partsF ks, v.length ≤ n ∧ ∀ x ∈ v, x ∈ ks := by
  intro n
  induction n with
  | zero =>
    intro ks h v hv
    rw [List.length_eq_zero_iff.mp h] at hv
    have : v = [] := List.mem_singleton.mp hv
    rw [this]
    exact ⟨Nat.le_refl _, fun x hx => nomatch hx⟩
  | succ n ih =>
    intro ks h v hv
    have hne : ks ≠ [] := fun e => by rw [e] at h; cases h
    have e := (List.dropLast_concat_getLast hne).symm
    have h2 : ks.dropLast.length = n := by rw [List.length_dropLast]; omega
    rw [e, parts_snoc] at hv
    have up : ∀ x ∈ ks.dropLast, x ∈ ks := fun x hx => List.dropLast_subset ks hx
    rcases List.mem_append.mp hv with hv | hv
    · obtain ⟨a, b⟩ := ih _ h2 v hv
      exact ⟨by omega, fun x hx => up x (b x hx)⟩
    · obtain ⟨u, hu, rfl⟩ := List.mem_map.mp hv
      obtain ⟨a, b⟩ := ih _ h2 u hu
      refine ⟨by rw [List.length_append, List.length_singleton]; omega, fun x hx => ?_⟩
      rcases List.mem_append.mp hx with hx | hx
      · exact up x (b x hx)
      · rw [List.mem_singleton.mp hx]
        exact List.getLast_mem hne
/-! settings -/
def oD (s : List (Option Str)) : PyData := .tuple (s.map optD)
def partOf (ks : List Str) (c : List Str × PyData) : List (Option Str) := none :: (ks.filter fun k => c.1.any fun w => isS w (.str k)).map some
def setF (cs : List (List Str × PyData)) (ks : List Str) : List (List (Option Str)) := cs.foldl (fun acc c => acc.flatMap fun s => (partOf ks c).map fun p => s ++ [p]) [[]]
theorem setF_snoc (cs : List (List Str × PyData)) (ks : List Str) (c : List Str × PyData) : setF (cs ++ [c]) ks = (setF cs ks).flatMap fun s => (partOf ks c).map fun p => s ++ [p] := by
  unfold setF
  rw [List.foldl_append]
  rfl
theorem partOf_len (ks : List Str) (c : List Str × PyData) : (partOf ks c).length ≤ ks.length + 1 := by
  unfold partOf
  rw [List.length_cons, List.length_map]
  have := List.length_filter_le (fun k => c.1.any fun w => isS w (.str k)) ks
  omega
theorem setF_len (ks : List Str) (hk : ks.length ≤ 3) : ∀ (n : Nat) (cs : List (List Str × PyData)), cs.length = n → (setF cs ks).length ≤ 4 ^ n ∧ ∀ s ∈ setF cs ks, s.length ≤ n := by
  intro n
  induction n with
  | zero =>
    intro cs h
    rw [List.length_eq_zero_iff.mp h]
    exact ⟨Nat.le_refl _, fun s hs => by rw [List.mem_singleton.mp hs]; exact Nat.le_refl _⟩
  | succ n ih =>
    intro cs h
    have hne : cs ≠ [] := fun e => by rw [e] at h; cases h
    have e := (List.dropLast_concat_getLast hne).symm
    have h2 : cs.dropLast.length = n := by rw [List.length_dropLast]; omega
    obtain ⟨i1, i2⟩ := ih _ h2
    rw [e, setF_snoc]
    refine ⟨?_, fun s hs => ?_⟩
    · have : ∀ xs : List (List (Option Str)), (xs.flatMap fun s => (partOf ks (cs.getLast hne)).map fun p => s ++ [p]).length ≤ xs.length * 4 := by
        intro xs
        induction xs with
        | nil => exact Nat.le_refl _
        | cons x r ih2 =>
          rw [List.flatMap_cons, List.length_append, List.length_map, List.length_cons]
          have := partOf_len ks (cs.getLast hne)
          omega
      have h1 := this (setF cs.dropLast ks)
      rw [Nat.pow_succ]
      omega
    · obtain ⟨u, hu, hs⟩ := List.mem_flatMap.mp hs
      obtain ⟨p, _, rfl⟩ := List.mem_map.mp hs
      have := i2 u hu
      rw [List.length_append, List.length_singleton]
      omega
def goodS (ks : List Str) (s : List (Option Str)) : Bool := ks.all fun k => s.any fun o => decide (o = some k)
def setFor (cs : List (List Str × PyData)) (ks : List Str) : PyData :=
  if cs.length < ks.length then .tuple [.str "short", ksD ks] else
    match (setF cs ks).find? (goodS ks) with
    | some s => .tuple [.str "setting", oD s]
    | none => .tuple [.str "short", ksD (((partsF ks).filter (shortB cs)).headD [])]
theorem ws_setLc2 (i : Nat) {X : Cx} {z : L2.St} {H H1 : Hp} {pos : Pos} {ds es : List PyData} {D : Ends} {elt tg iter tg1 iter1 : Expr} {y : Str} {py spos : Pos} {scope : Scope} {own : List (Str × Nat)} {vs1 : List Nat} {g g1 : TG} {w1 : TI} {f : PyData → PyData → PyData} (hi : DI X z H tg iter ds) (hl : ds.length * es.length ≤ 1000000)
    (hc : X.calm = true) (hN : X.N.Nodup) (ok : BlkOk X.N X.env.scope scope own) (hv : ∀ i ∈ vs1, i ∈ own.map (·.2))
    (hg : ∀ (s : Shared) (K : Hp) (C : Addr) (cl : List (Str × Addr)) (fp : List Addr), PG (X.blk s K scope (compEnvC scope cl C X.env) fp) tg g)
    (hi1 : ∀ (s : Shared) (H : Hp) (C : Addr) (cl : List (Str × Addr)) (fp : List Addr), PI (X.blk s H scope (compEnvC scope cl C X.env) fp) tg1 iter1 w1)
    (hg1 : ∀ (s : Shared) (K : Hp) (C : Addr) (cl : List (Str × Addr)) (fp : List Addr), PG (X.blk s K scope (compEnvC scope cl C X.env) fp) tg1 g1)
    (he : ∀ d ∈ ds, ∀ (v : V) (N K : Hp) (Q : L2.St → Hp → Prop), Kp H N → Kp N K → Dat N v d → (∀ z2, wipe z2 (own.map (·.2)) = wipe z (own.map (·.2)) →
      (∀ H1, Kp N H1 → ∀ R : It → Hp → Prop, (∀ J H2 M, Kp H1 H2 → Nw N H1 M H2 → ItD J M es → R J H2) → w1 z2 H1 R) →
      (∀ e ∈ es, ∀ (v' : V) (N' K' : Hp) (Q' : L2.St → Hp → Prop), Kp N N' → Kp N' K' → Dat N' v' e → (∀ z3, wipe z3 vs1 = wipe z2 vs1 →
        (∀ (s : Shared) (M : Hp) (C : Addr) (cl : List (Str × Addr)) (fp : List Addr), DE (X.blk s M scope (compEnvC scope cl C X.env) fp) z3 N' elt (f d e)) → Q' z3 K') → g1 v' (wipe z2 vs1) K' Q') → Q z2 K) → g v (wipe z (own.map (·.2))) K Q)
    (hs : ∀ x, foldedSetIterable iter X.env x = pure x) (hs1 : ∀ env x, foldedSetIterable iter1 env x = pure x) (p : Kp H H1)
    (hb : ∀ v H2 N, Kp H1 H2 → Nw H H1 N H2 → Dat N v (.list (ds.flatMap fun d => es.map (f d))) → D.nx (z.set i (some v)) H2) (hy : X.N[i]? = some y := by rfl) (hyl : X.env.scope.names.lookup y = some .local := by rfl)
    (hsw : swapsWith (.ListComp elt [⟨tg, iter, [], 0⟩, ⟨tg1, iter1, [], 0⟩] scope pos) (some (.Name y py)) spos.line X.env = pure true := by rfl) :
    WS X D z H1 (.Assign [.Name y py] (.ListComp elt [⟨tg, iter, [], 0⟩, ⟨tg1, iter1, [], 0⟩] scope pos) spos) := by
  obtain ⟨w, hw, hi⟩ := hi
  refine .on (ps_setLc2 (te := fun z2 K Q => ∀ (s : Shared) (M : Hp) (C : Addr) (cl : List (Str × Addr)) (fp : List Addr), WE (X.blk s M scope (compEnvC scope cl C X.env) fp) z2 K elt Q) (own := own) (vs1 := vs1) hc hN hy hyl hsw hw ok hv hg (fun _ _ _ _ _ => pts_nil) hi1 hg1 (fun _ _ _ _ _ => pts_nil)
    (fun s M C cl fp => ⟨fun pins s' z2 K Q I h => h s M C cl fp pins s' I⟩) hs hs1) ?_
  unfold tAsg
  exact lc2_coreD hi hl he p hb
/-- all rows of one of each, the first changing last -/
def rowsF (pss : List (List (Option Str))) : List (List (Option Str)) := pss.foldl (fun acc ps => acc.flatMap fun s => ps.map fun p => s ++ [p]) [[]]
theorem rows_snoc (pss : List (List (Option Str))) (ps : List (Option Str)) : rowsF (pss ++ [ps]) = (rowsF pss).flatMap fun s => ps.map fun p => s ++ [p] := by
  unfold rowsF
  rw [List.foldl_append]
  rfl
theorem set_rows (cs : List (List Str × PyData)) (ks : List Str) : setF cs ks = rowsF (cs.map (partOf ks)) := by
  unfold setF rowsF
  rw [List.foldl_map]
theorem rows_len : ∀ (n : Nat) (pss : List (List (Option Str))), pss.length = n → (∀ ps ∈ pss, ps.length ≤ 4) → (rowsF pss).length ≤ 4 ^ n ∧ ∀ s ∈ rowsF pss, s.length ≤ n := by
  intro n
  induction n with
  | zero =>
    intro pss h _
    rw [List.length_eq_zero_iff.mp h]
    exact ⟨Nat.le_refl _, fun s hs => by rw [List.mem_singleton.mp hs]; exact Nat.le_refl _⟩
  | succ n ih =>
    intro pss h h4
    have hne : pss ≠ [] := fun e => by rw [e] at h; cases h
    have e := (List.dropLast_concat_getLast hne).symm
    have h2 : pss.dropLast.length = n := by rw [List.length_dropLast]; omega
    obtain ⟨i1, i2⟩ := ih _ h2 fun ps hp => h4 _ (List.dropLast_subset pss hp)
    have hl := h4 _ (List.getLast_mem hne)
    rw [e, rows_snoc]
    refine ⟨?_, fun s hs => ?_⟩
    · have : ∀ xs : List (List (Option Str)), (xs.flatMap fun s => (pss.getLast hne).map fun p => s ++ [p]).length ≤ xs.length * 4 := by
        intro xs
        induction xs with
        | nil => exact Nat.le_refl _
        | cons x r ih2 =>
          rw [List.flatMap_cons, List.length_append, List.length_map, List.length_cons]
          omega
      have h1 := this (rowsF pss.dropLast)
      rw [Nat.pow_succ]
      omega
    · obtain ⟨u, hu, hs⟩ := List.mem_flatMap.mp hs
      obtain ⟨p, _, rfl⟩ := List.mem_map.mp hs
      have := i2 u hu
      rw [List.length_append, List.length_singleton]
      omega
/-! a def of data that are told by something else -/
def spX {α : Type} (inp : α → List PyData) (pre : α → Prop) (res : α → PyData) : Sp := fun vs H Q _ => ∃ (a : α) (N : Hp), Kp N H ∧ DatL N vs (inp a) ∧ pre a ∧ ∀ v H' M, Kp H H' → Nw N H M H' → Dat M v (res a) → Q v H'
theorem de_callX {α : Type} {X : Cx} {z : L2.St} {H : Hp} {k : Nat} {f : Addr} {fd : FuncData} {ps : List Str} {x : Str} {p pos : Pos} {e : Expr} {es : List Expr} {inp : α → List PyData} {pre : α → Prop} {res : α → PyData} {d : PyData} (a : α) (F : FnG X.prog X.w X.K X.mg X.base CX0 k f fd ps (spX inp pre res)) (hg : X.A.guards = some []) (hr : Room k X.A) (hm : X.mg x = some (.ref f))
    (hk : PySem.W.keepIn X.K (.ref f) = true) (hb : Binds X.K fd ps []) (ha : DA X z H (e :: es) (inp a)) (hp : pre a) (hq : res a = d) (gl : Gl X x := by rfl) (h0 : (x == ("__debug__" : Str)) = false := by decide)
    (h1 : starEach (e :: es) X.env = (false, eval e X.env) :: starEach es X.env := by rfl) (h2 : (backTo pos (starEach es X.env)).any (·.1) = false := by rfl) : DE X z H (.Call (.Name x p) (e :: es) [] pos) d := fun H1 q Q hQ =>
  .on (pe_callG F hg hr hm hk hb .nil (pass0) eA gl h0 h1 h2) (ha H1 q _ fun vs H2 N p2 n' hv => by
    subst hq
    rw [List.append_nil]
    exact ⟨a, N, n'.hi, hv, hp, fun v H' M p3 m hd => hQ v H' M (p2.tr p3) (n'.tr p2 m) hd⟩)
def psD (ps : List (Option Str)) : PyData := .list (ps.map optD)
namespace Q
abbrev sRows : Stmt := topS 18
abbrev sOver : Stmt := topS 19
abbrev sSubs : Stmt := topS 20
abbrev sFor : Stmt := topS 22
abbrev nRows : List Str := ["choices", "rows", "parts", "row", "part"]
abbrev nOver : List Str := ["counters", "kinds", "able", "_", "kind"]
abbrev nSubs : List Str := ["kinds", "subsets", "kind", "some"]
abbrev nFor : List Str := ["counters", "kinds", "setting", "kind", "some"]
theorem scRows : FnScope nRows ["choices"] (defScope sRows) := ⟨rfl, rfl, rfl, by decide +kernel, rfl, by decide +kernel, by decide +kernel⟩
theorem scOver : FnScope nOver ["counters", "kinds"] (defScope sOver) := ⟨rfl, rfl, rfl, by decide +kernel, rfl, by decide +kernel, by decide +kernel⟩
theorem scSubs : FnScope nSubs ["kinds"] (defScope sSubs) := ⟨rfl, rfl, rfl, by decide +kernel, rfl, by decide +kernel, by decide +kernel⟩
theorem scFor : FnScope nFor ["counters", "kinds"] (defScope sFor) := ⟨rfl, rfl, rfl, by decide +kernel, rfl, by decide +kernel, by decide +kernel⟩
section
variable {P : Program} {w : World} {K : PySem.W.Frag} {mg : Str → Option Value} {base : Heap} {f : Addr} {fd : FuncData}
def inR (pss : List (List (Option Str))) : List PyData := [.list (pss.map psD)]
def preR (pss : List (List (Option Str))) : Prop := pss.length ≤ 3 ∧ ∀ ps ∈ pss, ps.length ≤ 4
theorem ok_rows (D : Df K mg "rows_over" sRows ["choices"] f fd) :
    FnG P w K mg base CX0 1 f fd ["choices"] (spX inR preR fun pss => .list ((rowsF pss).map oD)) := by
  refine fnG D.F scRows (fun vs H Q E ⟨pss, N, _, h, _⟩ => by rw [h.len]; rfl) fun cdv A outer s H1 vs Q0 E hg hr ⟨pss, M, p0, hd, ⟨hcs, hks⟩, q⟩ => WB.nox ?_
  cases hd with
  | cons h1 hd =>
  cases hd
  rename_i v0 _
  have nd := scRows.nd
  have hu : (A.deeper (envOfC "rows_over" (defScope sRows) s.heap.objs.size f cdv)).units + 64 < cLine := hr.units
  show WB _ _ [some v0, none, none, none, none] H1 _
  refine .on (pss_cons (ps_set (i := 1) nd rfl (.inl rfl) eE) eB) ?_
  refine DE.go (N := M) (d := .list ((rowsF []).map oD)) (de_lst (da_cons (de_tup da_nil (by decide)) da_nil) (by show 1 ≤ 1000000; decide)) p0 ?_
  intro v2 K1 M1 k1 n1 hv2
  show WB _ _ [some v0, some v2, none, none, none] K1 _
  refine .on (pss_cons eS eB) ?_
  refine ws_for (N := M1) (ds := pss.map psD) (g := gName 2) (fun _ => rfl) PassesOwn.never rfl (di_lst (de_name 0 rfl (h1.kp n1.lo))) (pg_name nd rfl (.inr rfl)) n1.hi ?_
  intro H2 N1 p2 n2
  have h2 := (h1.kp n1.lo).kp n2.lo
  refine ⟨fun i z K' => ∃ (Mi : Hp) (v : V) (s3 : Option V), z = [some v0, some v, s3, none, none] ∧ Nw M H1 Mi K' ∧ Kp H1 K' ∧ Kp N1 Mi ∧ Dat Mi v (.list ((rowsF (pss.take i)).map oD)),
    ⟨N1, v2, none, rfl, n1.tr k1 n2, k1.tr p2, .rfl, hv2.kp n2.lo⟩, ?_, ?_, ?_⟩
  · rintro i z K' ⟨Mi, v, _, _, n, _, hN, _⟩
    exact hN.tr n.hi
  · rintro i d hd z K2 ⟨Mi, v, s3, rfl, n, kH, hN, hv⟩ u K3 Mu k23 nu hu3
    rw [List.getElem?_map] at hd
    have hi : i < pss.length := by
      cases e : pss[i]? with
      | none => rw [e] at hd; cases hd
      | some x => exact (List.getElem?_eq_some_iff.mp e).1
    rw [List.getElem?_eq_getElem hi] at hd
    have hd' : d = psD pss[i] := (Option.some.inj hd).symm
    subst hd'
    obtain ⟨M3, m1, m2⟩ := nu.up hN n.hi k23
    have hl4 : pss[i].length ≤ 4 := hks _ (List.getElem_mem hi)
    generalize hci : pss[i] = ps at hu3 hl4
    have hv3 := hv.kp m2.lo
    have hu3 := hu3.kp m1
    obtain ⟨lt, lm⟩ := rows_len _ (pss.take i) rfl fun ps hp => hks ps (List.mem_of_mem_take hp)
    have lt : (rowsF (pss.take i)).length ≤ 64 := by
      rw [List.length_take] at lt
      exact Nat.le_trans lt (Nat.le_trans (Nat.pow_le_pow_right (by decide) (show min i pss.length ≤ 3 by omega)) (by decide))
    show WB _ _ [some v0, some v, some u, none, none] K3 _
    refine .on (pss_one eS) ?_
    refine ws_setLc2 1 (H := M3) (ds := (rowsF (pss.take i)).map oD) (es := ps.map optD) (own := [("row", 3), ("part", 4)]) (vs1 := [4]) (w1 := iList K (tVar 2)) (g := gName 3) (g1 := gName 4) (f := fun d e => .tuple (seqOf d ++ [e])) (di_lst (de_name 1 rfl hv3)) ?_ rfl nd (blkOk_by (N := nRows) (sc := defScope sRows) (by decide +kernel)) (by decide) (fun _ _ _ _ _ => pg_name nd rfl (.inl rfl)) (fun _ _ _ _ _ => pi_list (pv 2)) (fun _ _ _ _ _ => pg_name nd rfl (.inl rfl)) ?_ (fun _ => rfl) (fun _ _ => rfl) m2.hi ?_
    · rw [List.length_map, List.length_map]
      exact Nat.le_trans (Nat.mul_le_mul lt hl4) (by decide)
    · intro d hd v7 N' K' Q p1 p2 hv7 hq
      obtain ⟨s, hs, rfl⟩ := List.mem_map.mp hd
      refine hq _ rfl (fun G1 g1 R r => ?_) fun e he v8 N'' K'' Q' p3 p4 hv8 hq' => hq' _ rfl fun s' M' C cl fp => ?_
      · obtain ⟨l, xs, rfl, hl1, hl2⟩ := (hu3.kp p1).lst_inv
        exact ⟨.ref l, rfl, l, rfl, ⟨xs, SqL.of (g1 _ _ hl1)⟩, r _ _ N' .rfl (.rfl g1) (itd_lst hl1 hl2)⟩
      · refine de_bin op_catA (rd_catT ?_) (de_name 3 rfl (hv7.kp p3)) (de_tup (da_cons (de_name 4 rfl hv8) da_nil) (by show 1 ≤ 1000000; decide))
        show (s.map optD).length + 1 ≤ 1000000
        rw [List.length_map]
        have := lm s hs
        rw [List.length_take] at this
        omega
    · intro v9 K5 M5 k45 n5 hv9
      refine ⟨M5, v9, _, rfl, (n.tr kH m2).tr (kH.tr k23) n5, (kH.tr k23).tr k45, hN.tr (m2.lo.tr n5.lo), ?_⟩
      have e : (rowsF (pss.take (i + 1))).map oD = ((rowsF (pss.take i)).map oD).flatMap fun d => (ps.map optD).map fun e => PyData.tuple (seqOf d ++ [e]) := by
        rw [List.take_add_one, List.getElem?_eq_getElem hi]
        show (rowsF (pss.take i ++ [pss[i]])).map oD = _
        rw [rows_snoc, hci, List.map_flatMap, List.flatMap_map]
        congr 1
        funext s
        rw [List.map_map, List.map_map]
        refine List.map_congr_left fun p _ => ?_
        show PyData.tuple ((s ++ [p]).map optD) = .tuple (s.map optD ++ [optD p])
        rw [List.map_append]
        rfl
      rw [e]
      exact hv9
  · rintro z K2 ⟨Mi, v, s3, rfl, n, kH, hN, hv⟩
    rw [List.length_map, List.take_length] at hv
    show WB _ _ [some v0, some v, s3, none, none] K2 _
    refine .on (pss_one (ps_ret eE)) ?_
    refine DE.go (N := Mi) (de_name 1 rfl hv) n.hi ?_
    intro v4 K4 M4 k4 n4 hv4
    exact q v4 K4 M4 (kH.tr k4) (n.tr kH n4) hv4
theorem ok_over {fR : Addr} {dR : FuncData} (D : Df K mg "_settings_over" sOver ["counters", "kinds"] f fd) (Ro : Df K mg "rows_over" sRows ["choices"] fR dR) :
    FnG P w K mg base CX0 2 f fd ["counters", "kinds"] (fun vs H Q _ => ∃ (cs : List (List Str × PyData)) (ks : List Str) (N : Hp), Kp N H ∧ DatL N vs [csD cs, ksD ks] ∧ cs.length ≤ 3 ∧ ks.length ≤ 3 ∧
      ∀ v H' M, Kp H H' → Nw N H M H' → Dat M v (.list ((setF cs ks).map oD)) → Q v H') := by
  have kR := ok_rows (P := P) (w := w) (base := base) Ro
  refine fnG D.F scOver (fun vs H Q E ⟨cs, ks, N, _, h, _⟩ => by rw [h.len]; rfl) fun cdv A outer s H1 vs Q0 E hg hr ⟨cs, ks, M, p0, hd, hcs, hks, q⟩ => WB.nox ?_
  cases hd with
  | cons h1 hd =>
  cases hd with
  | cons h2 hd =>
  cases hd
  rename_i v0 v1 _
  have nd := scOver.nd
  have hu : (A.deeper (envOfC "_settings_over" (defScope sOver) s.heap.objs.size f cdv)).units + 64 < cLine := hr.units
  show WB _ _ [some v0, some v1, none, none, none] H1 _
  refine .on (pss_one (ps_ret eE)) ?_
  refine DE.go (N := M) (d := .list ((setF cs ks).map oD)) ?_ p0 ?_
  · refine DE.to (de_callX (cs.map (partOf ks)) kR hg hr Ro.g Ro.F.kp Ro.b (da_cons (DE.to (de_lc (own := [("able", 2), ("_", 3)]) (g := gTup _ 2 (gCons (gName 2) (gCons (gName 3) gNil)))
        (f := fun d => PyData.list ([.none] ++ ((ks.map PyData.str).filter fun k => ((seqOf (fstD d)).map txt).any fun w => isS w k).map fun k => k)) (di_tup (de_name 0 rfl h1)) (by rw [List.length_map]; omega) rfl nd (blkOk_by (N := nOver) (sc := defScope sOver) (by decide +kernel))
        (fun _ _ _ _ _ => pg_tup rfl (pgs_cons (pg_name nd rfl (.inr rfl)) (pgs_cons (pg_name nd rfl (.inl rfl)) pgs_nil))) fun d hd v N' K' Q p1 p2 hv q => ?_) ?_) da_nil) ⟨by rw [List.length_map]; exact hcs, fun ps hp => ?_⟩ rfl) ?_
    · obtain ⟨⟨ws, sz⟩, hm, rfl⟩ := List.mem_map.mp hd
      obtain ⟨a, u1, u2, rfl, ha, d1, d2⟩ := hv.two
      refine ⟨a, [u1, u2], rfl, SqT.of (p2 _ _ ha), rfl, u1, [u2], rfl, u2, [], rfl, rfl, q _ rfl fun s M' C cl fp => ?_⟩
      refine de_bin op_cat (rd_catL ?_) (de_lst (ds := [.none]) (da_cons de_none da_nil) (by show 1 ≤ 1000000; decide)) (de_lcIf (own := [("kind", 4)]) (g := gName 4) (f := fun d => d) (q := fun d => ((ws.map PyData.str).map txt).any fun w => isS w d) (di_tup (de_name 1 rfl (h2.kp p1))) (by rw [List.length_map]; omega) rfl nd (blkOk_by (N := nOver) rfl)
          (fun _ _ _ _ _ => pg_name nd rfl (.inl rfl)) fun d hd v' N'' K'' Q p1' p2' hv' q' => q' _ rfl fun s M' C cl fp => ⟨?_, fun _ => de_name 4 rfl hv'⟩)
      · rw [List.length_map]
        refine Nat.le_trans (Nat.add_le_add_left (List.length_filter_le _ _) 1) ?_
        rw [List.length_map]
        omega
      · rw [txt_map]
        exact dt_cmp (op_inW hu) (rd_inW rfl) (de_name 4 rfl hv') (de_name 2 rfl (d1.kp p1'))
    · show PyData.list ((cs.map cD).map _) = .list ((cs.map (partOf ks)).map psD)
      rw [List.map_map, List.map_map]
      congr 1
      refine List.map_congr_left fun c _ => ?_
      show PyData.list ([.none] ++ ((ks.map PyData.str).filter fun k => ((c.1.map PyData.str).map txt).any fun w => isS w k).map fun k => k) = .list (.none :: ((ks.filter fun k => c.1.any fun w => isS w (.str k)).map some).map optD)
      rw [txt_map, List.map_id', List.filter_map, List.map_map]
      rfl
    · obtain ⟨c, _, rfl⟩ := List.mem_map.mp hp
      have := partOf_len ks c
      omega
    · rw [set_rows]
  intro v4 K4 M4 k4 n4 hv4
  exact q v4 K4 M4 k4 n4 hv4
end
end Q
end Fr

set_option Elab.async false
set_option linter.all false
set_option maxRecDepth 100000
set_option maxHeartbeats 1000000
set_option autoImplicit false
namespace Fr
open PySem PySem.Spec PyProof.Rows L2
abbrev CK : Type := List (List Str × PyData) × List Str
def inCK (a : CK) : List PyData := [csD a.1, ksD a.2]
structure RtCK (a : CK) : Prop where
  c : Q.dCounters (csD a.1) = true
  cw : wt (csD a.1) ≤ 1000000
  cl : a.1.length ≤ 3
  k : Q.dNames (ksD a.2) = true
  kw : wt (ksD a.2) ≤ 1000000
  kl : a.2.length ≤ 5
def hasRes (a : CK) : Prop := a.2.length ≤ a.1.length → (setF a.1 a.2).find? (goodS a.2) = none → (partsF a.2).filter (shortB a.1) ≠ []
def preFor (a : CK) : Prop := RtCK a ∧ hasRes a
namespace Q
section
variable {P : Program} {w : World} {K : PySem.W.Frag} {mg : Str → Option Value} {base : Heap} {f : Addr} {fd : FuncData}
def strsOf (d : PyData) : List Str := (seqOf d).map txt
def partD (d : PyData) : PyData := .list ((partsF (strsOf d)).map ksD)
theorem ok_subs (D : Df K mg "_subsets" sSubs ["kinds"] f fd) :
    FnG P w K mg base CX0 1 f fd ["kinds"] (spD 1 (fun ds => ∃ ks, ds = [ksD ks] ∧ ks.length ≤ 5) fun ds => partD (ds.headD .none)) := by
  refine fnD D.F scSubs rfl fun cdv A outer s H M vs ds E hg hr hd hl hp => ?_
  obtain ⟨ks, rfl, hk⟩ := hp
  cases hd with
  | cons h1 hd =>
  cases hd
  rename_i v0
  have nd := scSubs.nd
  have hstr : strsOf (ksD ks) = ks := txt_map ks
  refine DB.to (d := .list ((partsF ks).map ksD)) ?_ (by show _ = PyData.list ((partsF (strsOf (ksD ks))).map ksD); rw [hstr])
  intro H1 p0 D q
  show WB _ D [some v0, none, none, none] H1 _
  refine .on (pss_cons (ps_set (i := 1) nd rfl (.inl rfl) eE) eB) ?_
  refine DE.go (N := M) (d := .list ((partsF []).map ksD)) (de_lst (da_cons (de_tup da_nil (by decide)) da_nil) (by show 1 ≤ 1000000; decide)) p0 ?_
  intro v1 K1 M1 k1 n1 hv1
  show WB _ D [some v0, some v1, none, none] K1 _
  refine .on (pss_cons eS eB) ?_
  refine ws_for (N := M1) (ds := ks.map PyData.str) (g := gName 2) (fun _ => rfl) PassesOwn.never rfl (di_tup (de_name 0 rfl (h1.kp n1.lo))) (pg_name nd rfl (.inr rfl)) n1.hi ?_
  intro H2 N1 p2 n2
  refine ⟨fun i z K' => ∃ (Mi : Hp) (v : V) (s2 : Option V), z = [some v0, some v, s2, none] ∧ Nw M H1 Mi K' ∧ Kp H1 K' ∧ Kp N1 Mi ∧ Dat Mi v (.list ((partsF (ks.take i)).map ksD)),
    ⟨N1, v1, none, rfl, n1.tr k1 n2, k1.tr p2, .rfl, hv1.kp n2.lo⟩, ?_, ?_, ?_⟩
  · rintro i z K' ⟨Mi, v, s2, _, n, _, hN, _⟩
    exact hN.tr n.hi
  · rintro i d hd z K2 ⟨Mi, v, s2, rfl, n, kH, hN, hv⟩ u K3 Mu k23 nu hu
    rw [List.getElem?_map] at hd
    have hi : i < ks.length := by
      cases e : ks[i]? with
      | none => rw [e] at hd; cases hd
      | some x => exact (List.getElem?_eq_some_iff.mp e).1
    rw [List.getElem?_eq_getElem hi] at hd
    have hd' : d = .str ks[i] := (Option.some.inj hd).symm
    subst hd'
    obtain ⟨M3, m1, m2⟩ := nu.up hN n.hi k23
    obtain rfl := hu.str_inv
    have hv3 := hv.kp m2.lo
    show WB _ _ [some v0, some v, some (.str ks[i]), none] K3 _
    have lt : (partsF (ks.take i)).length ≤ 32 := by
      rw [parts_len _ _ rfl, List.length_take]
      exact Nat.le_trans (Nat.pow_le_pow_right (by decide) (show min i ks.length ≤ 5 by omega)) (by decide)
    refine .on (pss_one (ps_set (i := 1) nd rfl (.inl rfl) eE)) ?_
    refine DE.go (N := M3) (d := .list ((partsF (ks.take (i + 1))).map ksD)) ?_ m2.hi ?_
    · refine DE.to (de_bin op_cat (rd_catL ?_) (de_name 1 rfl hv3) (de_lc (own := [("some", 3)]) (g := gName 3) (f := fun d => .tuple (seqOf d ++ [.str ks[i]])) (di_lst (de_name 1 rfl hv3)) (by rw [List.length_map]; omega) rfl nd (blkOk_by (N := nSubs) (sc := defScope sSubs) (by decide +kernel))
          (fun _ _ _ _ _ => pg_name nd rfl (.inl rfl)) fun d hd v' N' K' Q p1 p2 hv' q' => q' _ rfl fun s M' C cl fp => ?_)) ?_
      · rw [List.length_map, List.length_map, List.length_map]
        omega
      · obtain ⟨u, hu, rfl⟩ := List.mem_map.mp hd
        have ul := (parts_mem _ _ rfl u hu).1
        refine de_bin op_catA (rd_catT ?_) (de_name 3 rfl hv') (de_tup (da_cons (de_name 2 rfl (.str _)) da_nil) (by show 1 ≤ 1000000; decide))
        show (u.map PyData.str).length + 1 ≤ 1000000
        rw [List.length_map]
        rw [List.length_take] at ul
        omega
      · rw [List.take_add_one, List.getElem?_eq_getElem hi]
        show _ = PyData.list ((partsF (ks.take i ++ [ks[i]])).map ksD)
        rw [parts_snoc, List.map_append, List.map_map, List.map_map]
        congr 2
        refine List.map_congr_left fun u _ => ?_
        show PyData.tuple (u.map PyData.str ++ [.str ks[i]]) = .tuple ((u ++ [ks[i]]).map PyData.str)
        rw [List.map_append]
        rfl
    · intro v4 K4 M4 k34 n4 hv4
      exact ⟨M4, v4, _, rfl, (n.tr kH m2).tr (kH.tr k23) n4, (kH.tr k23).tr k34, hN.tr (m2.lo.tr n4.lo), hv4⟩
  · rintro z K2 ⟨Mi, v, s2, rfl, n, kH, hN, hv⟩
    rw [List.length_map, List.take_length] at hv
    show WB _ D [some v0, some v, s2, none] K2 _
    refine .on (pss_one (ps_ret eE)) ?_
    refine DE.go (N := Mi) (de_name 1 rfl hv) n.hi ?_
    intro v4 K4 M4 k4 n4 hv4
    exact q v4 K4 M4 (kH.tr k4) (n.tr kH n4) hv4

theorem dt_gt_len {X : Cx} {z : L2.St} {H : Hp} : True := trivial
theorem ok_for {fC fK fO fU fS fR : Addr} {dC dK dO dU dS dR : FuncData} (D : Df K mg "setting_for" sFor ["counters", "kinds"] f fd) (B : Blt mg)
    (Cc : Df K mg "check_counters" sCheckC ["counters"] fC dC) (Ck : Df K mg "_check_kinds" sCheckK ["kinds"] fK dK) (Ro : Df K mg "rows_over" sRows ["choices"] fR dR) (Ov : Df K mg "_settings_over" sOver ["counters", "kinds"] fO dO) (Su : Df K mg "_subsets" sSubs ["kinds"] fU dU) (Sh : Df K mg "_is_short" sShort ["counters", "kinds"] fS dS)
    (kC : FnG P w K mg base CX0 5 fC dC ["counters"] (spD 1 (fun ds => ∀ x ∈ ds, wt x ≤ 1000000 ∧ dCounters x = true) fun _ => .none))
    (kK : FnG P w K mg base CX0 3 fK dK ["kinds"] (spD 1 (fun ds => ∀ x ∈ ds, wt x ≤ 1000000 ∧ dNames x = true) fun _ => .none))
    (kS : FnG P w K mg base CX0 1 fS dS ["counters", "kinds"] (spD 2 (fun ds => ∃ cs ks, ds = [csD cs, ksD ks] ∧ cs.length ≤ 1000 ∧ ks.length ≤ 100000) fun ds => .bool (shortD (ds.headD .none) (ds.getD 1 .none)))) :
    FnG P w K mg base CX0 6 f fd ["counters", "kinds"] (spX inCK preFor fun a => setFor a.1 a.2) := by
  have kO : FnG P w K mg base CX0 2 fO dO ["counters", "kinds"] (spX inCK (fun a : CK => a.1.length ≤ 3 ∧ a.2.length ≤ 3) fun a => .list ((setF a.1 a.2).map oD)) :=
    (ok_over Ov Ro).imp fun vs H Q E ⟨a, N, h1, h2, ⟨h3, h4⟩, h5⟩ => ⟨a.1, a.2, N, h1, h2, h3, h4, h5⟩
  have kU := ok_subs (P := P) (w := w) (base := base) Su
  refine fnG D.F scFor (fun vs H Q E ⟨a, N, _, h, _⟩ => by rw [h.len]; rfl) fun cdv A outer s H1 vs Q0 E hg hr ⟨⟨cs, ks⟩, M, p0, hd, ⟨R, hres⟩, q⟩ => WB.nox ?_
  cases hd with
  | cons h1 hd =>
  cases hd with
  | cons h2 hd =>
  cases hd
  rename_i v0 v1 _
  have nd := scFor.nd
  have hu : (A.deeper (envOfC "setting_for" (defScope sFor) s.heap.objs.size f cdv)).units + 64 < cLine := hr.units
  have rcl := R.cl
  have rkl := R.kl
  dsimp only at rcl rkl
  show WB _ _ [some v0, some v1, none, none, none] H1 _
  refine .on (pss_cons (ps_expr eE) eB) ?_
  refine DE.go (N := M) (d := .none) (de_call kC hg (hr.mono (by decide)) Cc.g Cc.F.kp Cc.b (da_cons (de_name 0 rfl h1) da_nil) (fun x hx => ?_) rfl) p0 ?_
  · cases List.mem_singleton.mp hx
    exact ⟨R.cw, R.c⟩
  intro _ K1 M1 k1 n1 _
  refine .on (pss_cons (ps_expr eE) eB) ?_
  refine DE.go (N := M1) (d := .none) (de_call kK hg (hr.mono (by decide)) Ck.g Ck.F.kp Ck.b (da_cons (de_name 1 rfl (h2.kp n1.lo)) da_nil) (fun x hx => ?_) rfl) n1.hi ?_
  · cases List.mem_singleton.mp hx
    exact ⟨R.kw, R.k⟩
  intro _ K2 M2 k2 n2 _
  have m2 := n1.tr k1 n2
  have h1 := h1.kp m2.lo
  have h2 := h2.kp m2.lo
  show WB _ _ [some v0, some v1, none, none, none] K2 _
  have ite0 : ∀ {b : Bool} {A B : Prop}, (b = true → A) → (b = false → B) → (if b = true then A else B) := fun {b A B} hA hB => by
    cases b with
    | true => rw [if_pos rfl]; exact hA rfl
    | false => rw [if_neg Bool.false_ne_true]; exact hB rfl
  have lenC : ((cs.map cD).length : Nat) = cs.length := List.length_map _
  have lenK : ((ks.map PyData.str).length : Nat) = ks.length := List.length_map _
  refine .on (pss_cons (ps_if eT eB pss_nil) eB) ?_
  refine DT.go (N := M2) (b := decide (((cs.map cD).length : Int) < ((ks.map PyData.str).length : Int))) (dt_cmp op_gt rd_gt_int (de_len (de_name 1 rfl h2) rfl B.len) (de_len (de_name 0 rfl h1) rfl B.len)) m2.hi ?_
  intro K3 k3
  have m3 := m2.more k3
  refine ite0 (fun hb => ?_) fun hb => ?_
  · have hlt : cs.length < ks.length := by
      have := of_decide_eq_true hb
      omega
    refine .on (pss_one (ps_ret eE)) ?_
    refine DE.go (N := M2) (d := setFor cs ks) ?_ m3.hi ?_
    · refine DE.to (de_tup (da_cons de_str (da_cons (de_name 1 rfl h2) da_nil)) (by show 2 ≤ 1000000; decide)) ?_
      unfold setFor
      rw [if_pos hlt]
    intro v K4 M4 k4 n4 hv
    exact q v K4 M4 ((k1.tr (k2.tr k3)).tr k4) (m3.tr (k1.tr (k2.tr k3)) n4) hv
  have hle : ¬ cs.length < ks.length := by
    have := of_decide_eq_false hb
    omega
  show WB _ _ [some v0, some v1, none, none, none] K3 _
  refine .on (pss_cons eS eB) ?_
  obtain ⟨_, slen⟩ := setF_len ks (by omega) _ cs rfl
  refine ws_for (N := M2) (ds := (setF cs ks).map oD) (g := gName 2) (fun _ => rfl) PassesOwn.never rfl (di_lst (de_callX (cs, ks) kO hg (hr.mono (by decide)) Ov.g Ov.F.kp Ov.b (da_cons (de_name 0 rfl h1) (da_cons (de_name 1 rfl h2) da_nil)) ⟨rcl, by show ks.length ≤ 3; omega⟩ rfl)) (pg_name nd rfl (.inr rfl)) m3.hi ?_
  intro H4 N4 p4 n4
  have m4 := m3.tr (k1.tr (k2.tr k3)) (show Nw M2 K3 N4 H4 from n4)
  have k14 : Kp H1 H4 := (k1.tr (k2.tr k3)).tr p4
  have h1 := h1.kp n4.lo
  have h2 := h2.kp n4.lo
  refine ⟨fun i z K' => ∃ (s2 : Option V), z = [some v0, some v1, s2, none, none] ∧ Kp H4 K' ∧ (setF cs ks).find? (goodS ks) = ((setF cs ks).drop i).find? (goodS ks), ⟨none, rfl, .rfl, rfl⟩, ?_, ?_, ?_⟩
  · rintro i z K' ⟨_, _, h, _⟩
    exact n4.hi.tr h
  · rintro i d hd z K5 ⟨s2, rfl, k45, hf⟩ u K6 Mu k56 nu hu6
    rw [List.getElem?_map] at hd
    have hi : i < (setF cs ks).length := by
      cases e : (setF cs ks)[i]? with
      | none => rw [e] at hd; cases hd
      | some x => exact (List.getElem?_eq_some_iff.mp e).1
    rw [List.getElem?_eq_getElem hi] at hd
    have hd' : d = oD (setF cs ks)[i] := (Option.some.inj hd).symm
    subst hd'
    rw [List.drop_eq_getElem_cons hi] at hf
    generalize hci : (setF cs ks)[i] = st at hu6 hf
    have m6 : Nw M H1 Mu K6 := m4.tr k14 (nu.from k45)
    have h1 := h1.kp nu.lo
    have h2 := h2.kp nu.lo
    show WB _ _ [some v0, some v1, some u, none, none] K6 _
    refine .on (pss_one (ps_if eT eB pss_nil)) ?_
    refine DT.go (N := Mu) (b := goodS ks st) (dt_val (DE.to (de_allM (de_lc (own := [("kind", 3)]) (g := gName 3) (f := fun d => .bool (st.any fun o => decide (o = some (txt d)))) (di_tup (de_name 1 rfl h2)) (by rw [lenK]; omega) rfl nd (blkOk_by (N := nFor) (sc := defScope sFor) (by decide +kernel))
        (fun _ _ _ _ _ => pg_name nd rfl (.inl rfl)) fun d hd v' N' K' Q p1 p2 hv' q' => q' _ rfl fun s M' C cl fp => ?_) rfl B.all) ?_)) m6.hi ?_
    · obtain ⟨k, _, rfl⟩ := List.mem_map.mp hd
      exact de_cmp (op_inO hu) rd_inO (de_name 3 rfl hv') (de_name 2 rfl (hu6.kp p1))
    · show PyData.bool ((ks.map PyData.str).all fun d => st.any fun o => decide (o = some (txt d))) = .bool (goodS ks st)
      rw [List.all_map]
      rfl
    intro K7 k67
    refine ite0 (fun hb => ?_) fun hb => ?_
    · refine .on (pss_one (ps_ret eE)) ?_
      refine DE.go (N := Mu) (d := setFor cs ks) ?_ (m6.hi.tr k67) ?_
      · refine DE.to (de_tup (da_cons de_str (da_cons (de_name 2 rfl hu6) da_nil)) (by show 2 ≤ 1000000; decide)) ?_
        unfold setFor
        rw [if_neg hle, hf, List.find?_cons_of_pos hb]
      intro v K8 M8 k8 n8 hv
      have kk : Kp H1 K7 := k14.tr (k45.tr (k56.tr k67))
      exact q v K8 M8 (kk.tr k8) ((m6.more k67).tr kk n8) hv
    · refine ⟨_, rfl, k45.tr (k56.tr k67), ?_⟩
      rw [hf, List.find?_cons_of_neg (by rw [hb]; exact Bool.false_ne_true)]
  · rintro z K5 ⟨s2, rfl, k45, hf⟩
    rw [List.length_map, List.drop_length] at hf
    have hf : (setF cs ks).find? (goodS ks) = none := hf
    have hne := hres (by show ks.length ≤ cs.length; omega) hf
    have m5 := m4.more k45
    show WB _ _ [some v0, some v1, s2, none, none] K5 _
    refine .on (pss_one (ps_ret eE)) ?_
    refine DE.go (N := N4) (d := setFor cs ks) ?_ m5.hi ?_
    · have e0 : ((((partsF ks).map ksD).filter fun d => shortD (csD cs) d).map fun d => d) = ((partsF ks).filter (shortB cs)).map ksD := by
        rw [List.map_id', List.filter_map]
        congr 1
        refine List.filter_congr fun v _ => ?_
        exact short_csD cs v
      refine DE.to (de_tup (da_cons de_str (da_cons (de_ix (d := ksD (((partsF ks).filter (shortB cs)).headD [])) ix_list (rd_ixL ?_) (DE.to (de_lcIf (own := [("some", 4)]) (g := gName 4) (f := fun d => d) (q := fun d => shortD (csD cs) d) (di_lst (de_call (d := .list ((partsF ks).map ksD)) kU hg (hr.mono (by decide)) Su.g Su.F.kp Su.b (da_cons (de_name 1 rfl h2) da_nil) ⟨ks, rfl, by omega⟩ rfl (hq := ?_))) ?_ rfl nd (blkOk_by (N := nFor) (sc := defScope sFor) (by decide +kernel))
          (fun _ _ _ _ _ => pg_name nd rfl (.inl rfl)) fun d hd v' N' K' Q p1 p2 hv' q' => q' _ rfl fun s M' C cl fp => ⟨?_, fun _ => de_name 4 rfl hv'⟩) (congrArg PyData.list e0)) de_int) da_nil)) (by show 2 ≤ 1000000; decide)) ?_
      · generalize (partsF ks).filter (shortB cs) = L at hne
        cases L with
        | nil => exact absurd rfl hne
        | cons x r => exact atI_nat (j := 0) rfl
      · show PyData.list ((partsF ((ks.map PyData.str).map txt)).map ksD) = _
        rw [txt_map]
      · rw [List.length_map, parts_len _ _ rfl]
        exact Nat.le_trans (Nat.pow_le_pow_right (by decide) rkl) (by decide)
      · obtain ⟨v, hv, rfl⟩ := List.mem_map.mp hd
        have vl := (parts_mem _ _ rfl v hv).1
        exact dt_val (de_call (d := .bool (shortD (csD cs) (ksD v))) kS hg (hr.mono (by decide)) Sh.g Sh.F.kp Sh.b (da_cons (de_name 0 rfl (h1.kp p1)) (da_cons (de_name 4 rfl hv') da_nil)) ⟨cs, v, rfl, by omega, by omega⟩ rfl)
      · unfold setFor
        rw [if_neg hle, hf]
    intro v K8 M8 k8 n8 hv
    have kk : Kp H1 K5 := k14.tr k45
    exact q v K8 M8 (kk.tr k8) (m5.tr kk n8) hv
end
end Q
end Fr

set_option Elab.async false
set_option linter.all false
set_option maxRecDepth 100000
set_option maxHeartbeats 1000000
set_option autoImplicit false
namespace Fr
open PySem PySem.Spec PyProof.Rows L2
def suit1 : PyData → Bool
  | .tuple [x, .tuple [.tuple ws, _]] => Q.isNone x || ((ws.map txt).any fun w => isS w x)
  | _ => false
def suitsD (cs : List (List Str × PyData)) : PyData → Bool
  | .tuple xs => decide (xs.length = cs.length) && (zipD xs (cs.map cD)).all suit1
  | _ => false
abbrev CV : Type := List (List Str × PyData) × PyData
def inCV (a : CV) : List PyData := [csD a.1, a.2]
structure RtCV (a : CV) : Prop where
  c : Q.dCounters (csD a.1) = true
  cw : wt (csD a.1) ≤ 1000000
  cl : a.1.length ≤ 3
namespace Q
abbrev sSuits : Stmt := topS 15
abbrev sIsSet : Stmt := topS 16
abbrev nSuits : List Str := ["counters", "value", "kind", "kinds", "_"]
theorem scSuits : FnScope nSuits ["counters", "value"] (defScope sSuits) := ⟨rfl, rfl, rfl, by decide +kernel, rfl, by decide +kernel, by decide +kernel⟩
theorem scIsSet : FnScope ["counters", "value"] ["counters", "value"] (defScope sIsSet) := ⟨rfl, rfl, rfl, by decide +kernel, rfl, by decide +kernel, by decide +kernel⟩
section
variable {P : Program} {w : World} {K : PySem.W.Frag} {mg : Str → Option Value} {base : Heap} {f : Addr} {fd : FuncData}
theorem ok_suits {fR : Addr} {dR : FuncData} (D : Df K mg "suits" sSuits ["counters", "value"] f fd) (B : Blt mg) (R : Df K mg "is_row" sRow ["value", "width"] fR dR) :
    FnG P w K mg base CX0 2 f fd ["counters", "value"] (spX inCV (fun a => a.1.length ≤ 3) fun a => .bool (suitsD a.1 a.2)) := by
  have kR := ok_row (P := P) (w := w) (base := base) R B
  refine fnG D.F scSuits (fun vs H Q E ⟨a, N, _, h, _⟩ => by rw [h.len]; rfl) fun cdv A outer s H1 vs Q0 E hg hr ⟨⟨cs, d⟩, M, p0, hd, hcl, q⟩ => WB.nox ?_
  cases hd with
  | cons h1 hd =>
  cases hd with
  | cons h2 hd =>
  cases hd
  rename_i v0 v1 _
  have nd := scSuits.nd
  have hu : (A.deeper (envOfC "suits" (defScope sSuits) s.heap.objs.size f cdv)).units + 64 < cLine := hr.units
  dsimp only at hcl
  have lenC : (cs.map cD).length = cs.length := List.length_map _
  have go : DB (cxOf CX0 P w K mg base nSuits "suits" (defScope sSuits) f cdv A outer s H1 E).nox (start nSuits [v0, v1]) M (defBody sSuits) (.bool (suitsD cs d)) := by
    refine db_if (k := !dRow d ((cs.map cD).length : Nat)) (dt_not (dt_val (de_call (d := .bool (dRow d ((cs.map cD).length : Nat))) kR hg (hr.mono (by decide)) R.g R.F.kp R.b (da_cons (de_name 1 rfl h2) (da_cons (de_len (de_name 0 rfl h1) rfl B.len) da_nil)) ⟨_, rfl⟩ rfl))) (fun hk => ?_) fun hk => ?_
    · refine DB.to (db_ret (de_bl (w := false))) ?_
      have hk : dRow d ((cs.map cD).length : Nat) = false := by simpa using hk
      have : suitsD cs d = false := by
        cases d with
        | tuple xs =>
          have e : (true && decide (((xs.length : Nat) : Int) = ((cs.map cD).length : Nat))) = false := hk
          rw [Bool.true_and] at e
          have := of_decide_eq_false e
          show (decide (xs.length = cs.length) && _) = false
          rw [decide_eq_false (by omega), Bool.false_and]
        | _ => rfl
      rw [this]
    · have hk : dRow d ((cs.map cD).length : Nat) = true := by simpa using hk
      obtain ⟨xs, rfl, hxs⟩ := row_inv hk
      have zl : (zipD xs (cs.map cD)).length ≤ 1000000 := by
        rw [zipD_len]
        omega
      refine db_ret (DE.to (de_allM (de_lc (own := [("kind", 2), ("kinds", 3), ("_", 4)]) (g := gTup _ 2 (gCons (gName 2) (gCons (gTup _ 2 (gCons (gName 3) (gCons (gName 4) gNil))) gNil))) (f := fun d => .bool (suit1 d))
        (di_zipT (de_name 1 rfl h2) (de_name 0 rfl h1) B.zip) zl rfl nd (blkOk_by (N := nSuits) (sc := defScope sSuits) (by decide +kernel))
        (fun _ _ _ _ _ => pg_tup rfl (pgs_cons (pg_name nd rfl (.inl rfl)) (pgs_cons (pg_tup rfl (pgs_cons (pg_name nd rfl (.inl rfl)) (pgs_cons (pg_name nd rfl (.inl rfl)) pgs_nil))) pgs_nil))) fun d hd v N K Q p1 p2 hv q => ?_) rfl B.all) ?_)
      · obtain ⟨x, y, rfl, mx, my⟩ := mem_zip hd
        obtain ⟨⟨able, sz⟩, _, rfl⟩ := List.mem_map.mp my
        obtain ⟨a, u1, u2, rfl, ha, d1, d2⟩ := hv.two
        obtain ⟨a2, u3, u4, rfl, ha2, d3, d4⟩ := d2.two
        refine ⟨a, [u1, .ref a2], rfl, SqT.of (p2 _ _ ha), rfl, u1, [.ref a2], rfl, .ref a2, [], rfl, ⟨a2, [u3, u4], rfl, SqT.of (p2 _ _ ha2), rfl, u3, [u4], rfl, u4, [], rfl, rfl, rfl, q _ rfl fun s M C cl fp => ?_⟩⟩
        refine DE.to (de_or (k := isNone x) (k' := able.any fun w => isS w x) (de_cmp op_isN rd_isN (de_name 2 rfl d1) de_none) fun _ => de_one (de_cmp (op_inW hu) (rd_inW rfl) (de_name 2 rfl d1) (de_name 3 rfl d3))) ?_
        show PyData.bool _ = .bool (isNone x || (((able.map PyData.str).map txt).any fun w => isS w x))
        rw [txt_map]
      · show PyData.bool _ = .bool (decide (xs.length = cs.length) && (zipD xs (cs.map cD)).all suit1)
        rw [decide_eq_true (by omega), Bool.true_and]
  exact go H1 p0 _ q
theorem ok_isset {fC fS : Addr} {dC dS : FuncData} (D : Df K mg "is_setting" sIsSet ["counters", "value"] f fd) (Cc : Df K mg "check_counters" sCheckC ["counters"] fC dC) (Su : Df K mg "suits" sSuits ["counters", "value"] fS dS)
    (kC : FnG P w K mg base CX0 5 fC dC ["counters"] (spD 1 (fun ds => ∀ x ∈ ds, wt x ≤ 1000000 ∧ dCounters x = true) fun _ => .none))
    (kS : FnG P w K mg base CX0 2 fS dS ["counters", "value"] (spX inCV (fun a => a.1.length ≤ 3) fun a => .bool (suitsD a.1 a.2))) :
    FnG P w K mg base CX0 6 f fd ["counters", "value"] (spX inCV RtCV fun a => .bool (suitsD a.1 a.2)) := by
  refine fnG D.F scIsSet (fun vs H Q E ⟨a, N, _, h, _⟩ => by rw [h.len]; rfl) fun cdv A outer s H1 vs Q0 E hg hr ⟨⟨cs, d⟩, M, p0, hd, R, q⟩ => WB.nox ?_
  cases hd with
  | cons h1 hd =>
  cases hd with
  | cons h2 hd =>
  cases hd
  rename_i v0 v1 _
  have go : DB (cxOf CX0 P w K mg base ["counters", "value"] "is_setting" (defScope sIsSet) f cdv A outer s H1 E).nox (start ["counters", "value"] [v0, v1]) M (defBody sIsSet) (.bool (suitsD cs d)) := by
    refine db_expr (d := .none) (de_call kC hg hr Cc.g Cc.F.kp Cc.b (da_cons (de_name 0 rfl h1) da_nil) (fun x hx => ?_) rfl) fun N1 p1 => ?_
    · cases List.mem_singleton.mp hx
      exact ⟨R.cw, R.c⟩
    exact db_ret (de_callX (cs, d) kS hg (hr.mono (by decide)) Su.g Su.F.kp Su.b (da_cons (de_name 0 rfl (h1.kp p1)) (da_cons (de_name 1 rfl (h2.kp p1)) da_nil)) R.cl rfl)
  exact go H1 p0 _ q
end
end Q
end Fr

set_option Elab.async false
set_option linter.all false
set_option maxRecDepth 100000
set_option maxHeartbeats 2000000
set_option autoImplicit false
namespace Fr
open PySem PySem.Spec PyProof.Rows L2
/-- an int from 0 below n -/
def postTake (ds : List PyData) (d : PyData) : Prop := ∃ r : Int, d = .int r ∧ 0 ≤ r ∧ ∀ n, ds = [.int n] → r < n
def preTake (ds : List PyData) : Prop := ∃ n : Int, ds = [.int n] ∧ 1 ≤ n ∧ n ≤ 1000000
theorem prime_at (k : Int) : ∃ pr : Int, atI [V.int 2305843009213693951, V.int 2305843009213693921, V.int 2305843009213693907, V.int 2305843009213693723] (k % 4) = some (.int pr) ∧ 0 < pr ∧ pr ≤ 2305843009213693951 := by
  have h : k % 4 = 0 ∨ k % 4 = 1 ∨ k % 4 = 2 ∨ k % 4 = 3 := by omega
  rcases h with h | h | h | h <;> rw [h]
  · exact ⟨_, rfl, by decide, by decide⟩
  · exact ⟨_, rfl, by decide, by decide⟩
  · exact ⟨_, rfl, by decide, by decide⟩
  · exact ⟨_, rfl, by decide, by decide⟩
theorem sq_le {k : Int} (h0 : 0 ≤ k) (h : k ≤ 1000001) : 104729 * k * k ≤ 104729 * 1000001 * 1000001 ∧ 0 ≤ 104729 * k * k := by
  have h1 : 104729 * k ≤ 104729 * 1000001 := by omega
  have h2 : 0 ≤ 104729 * k := by omega
  exact ⟨Int.mul_le_mul h1 h h0 (by omega), Int.mul_nonneg h2 h0⟩
theorem go_set {j : Addr} {N H : Hp} {o : HO} {c : Nat} (kp : Kp N H) (hj : N j = none) (h : ∃ a b k : Int, upd H j o j = some (.lst [.int a, .int b, .int k]) ∧ 0 ≤ a ∧ a < big ∧ 0 ≤ b ∧ b < 2 ^ 61 ∧ 0 ≤ k ∧ k ≤ (c : Int)) : Go j N H N (upd H j o) c :=
  ⟨fun x o' hx e => by rw [upd_ne hx]; exact e, .rfl, fun x o' e => by
    have hx : x ≠ j := fun z => by rw [z, hj] at e; cases e
    rw [upd_ne hx]
    exact kp _ _ e, fun _ h _ => h, ⟨h⟩⟩
namespace Q
abbrev sPot : Stmt := topS 25
abbrev sTake : Stmt := topS 26
abbrev sOf : Stmt := topS 27
theorem scTake : FnScope ["_law_pot_here", "_law_many", "_law_digit", "_law_prime", "_law_mixed"] ["_law_pot_here", "_law_many"] (defScope sTake) := ⟨rfl, rfl, rfl, by decide +kernel, rfl, by decide +kernel, by decide +kernel⟩
theorem scOf : FnScope ["_law_pot_here", "_law_some"] ["_law_pot_here", "_law_some"] (defScope sOf) := ⟨rfl, rfl, rfl, by decide +kernel, rfl, by decide +kernel, by decide +kernel⟩
section
variable {P : Program} {w : World} {K : PySem.W.Frag} {mg : Str → Option Value} {base : Heap} {f : Addr} {fd : FuncData}
theorem ok_take (D : Df K mg "_law_take" sTake ["_law_pot_here", "_law_many"] f fd) (B : Blt mg) : FnG P w K mg base CX0 1 f fd ["_law_pot_here", "_law_many"] (spJ 1 preTake 1 postTake) := by
  refine fnG D.F scTake (spJ_len rfl) fun cdv A outer s H vs Q E hg hr h => WB.nox ?_
  obtain ⟨j, ws, ds, N, c, rfl, kp, hj, jar, hc, hw, _, ⟨n, rfl, hn1, hn2⟩, q⟩ := h
  cases hw with
  | cons h1 h2 =>
  cases h2
  obtain rfl := h1.int_inv
  obtain ⟨a, b, k, hH, a0, a1, b0, b1, k0, k1⟩ := jar.ex
  have bi : bootBuiltins "int" = some (.type "int") := by decide +kernel
  have nd := scTake.nd
  refine .on (pss_cons (ps_if (pt_cmpR op_gt (pe_ix ix_list (pv 0) pe_int (fun _ _ => rfl)) pe_int (nomark _))
      (pss_cons (ps_set (i := 2) nd rfl (.inl rfl) (pe_op op_mod (pe_callTy call_int1 (by rfl) B.int bi (pa_cons (pe_ix ix_list (pv 0) pe_int (fun _ _ => rfl)) pa_nil)) (pv 1)))
      (pss_cons (ps_asg (pe_op op_fdivW (pe_ix ix_list (pv 0) pe_int (fun _ _ => rfl)) (pv 1)) (pg_sub (pv 0) pe_int set_list))
      (pss_one (ps_ret (pv 2))))) pss_nil)
    (pss_cons (ps_asg (pe_op op_add (pe_ix ix_list (pv 0) pe_int (fun _ _ => rfl)) pe_int) (pg_sub (pv 0) pe_int set_list))
    (pss_cons (ps_set (i := 3) nd rfl (.inl rfl) (pe_ix ix_list (pe_lst (pa_cons pe_int (pa_cons pe_int (pa_cons pe_int (pa_cons pe_int pa_nil))))) (pe_op op_mod (pe_callTy call_int1 (by rfl) B.int bi (pa_cons (pe_ix ix_list (pv 0) pe_int (fun _ _ => rfl)) pa_nil)) pe_int) (fun _ _ => rfl)))
    (pss_cons (ps_set (i := 4) nd rfl (.inl rfl) (pe_op op_mod (pe_callTy call_int1 (by rfl) B.int bi (pa_cons (pe_op op_pow (pe_op op_add (pe_op op_add (pe_ix ix_list (pv 0) pe_int (fun _ _ => rfl)) (pe_op op_mul (pe_op op_mul pe_int (pe_ix ix_list (pv 0) pe_int (fun _ _ => rfl))) (pe_ix ix_list (pv 0) pe_int (fun _ _ => rfl)))) pe_int) pe_int) pa_nil)) (pv 3)))
    (pss_cons (ps_set (i := 4) nd rfl (.inl rfl) (pe_op op_mod (pe_callTy call_int1 (by rfl) B.int bi (pa_cons (pe_op op_mul (pv 4) (pe_op op_add (pe_op op_mod (pe_callTy call_int1 (by rfl) B.int bi (pa_cons (pv 4) pa_nil)) pe_int) (pe_op op_mul pe_int (pe_ix ix_list (pv 0) pe_int (fun _ _ => rfl))))) pa_nil)) (pv 3)))
    (pss_one (ps_ret (pe_op op_mod (pe_callTy call_int1 (by rfl) B.int bi (pa_cons (pe_op op_fdivW (pv 4) pe_int) pa_nil)) (pv 1))))))))) ?_
  have hS : SqL K H j [.int a, .int b, .int k] := SqL.of hH
  refine ⟨.ref j, rfl, j, _, 0, .int a, rfl, rfl, hS, rfl, a, 0, rfl, rfl, _, rfl, ?_⟩
  refine ite2 (fun e => ?_) (fun e => ?_)
  · have ha : 0 < a := of_decide_eq_true e
    refine ⟨.ref j, rfl, j, _, 0, .int a, rfl, rfl, hS, rfl, .inl ⟨a, rfl, .int n, rfl, a, n, rfl, rfl, by omega, ?_⟩⟩
    refine ⟨.ref j, rfl, j, _, 0, .int a, rfl, rfl, hS, rfl, .int n, rfl, a, n, rfl, rfl, wide_div (b := 20) (by omega) (by omega) (by decide) (by decide), ?_⟩
    refine ⟨.ref j, rfl, j, _, 0, 0, rfl, rfl, hH, rfl, .int (a % n), rfl, ?_⟩
    have hm0 : 0 ≤ a % n := Int.emod_nonneg _ (by omega)
    have hm1 : a % n < n := Int.emod_lt_of_pos _ (by omega)
    have hd0 : 0 ≤ a / n := Int.ediv_nonneg a0 (by omega)
    have hd1 : a / n ≤ a := Int.ediv_le_self _ a0
    exact q _ _ N (.int (a % n)) (go_set kp hj ⟨a / n, b, k, upd_same, hd0, by omega, b0, b1, k0, by omega⟩) (.int _) ⟨_, rfl, hm0, fun m e => by cases e; exact hm1⟩
  · -- jar[2] = jar[2] + 1
    refine ⟨.ref j, rfl, j, _, 2, .int k, rfl, rfl, hS, rfl, k, 1, rfl, rfl, .ref j, rfl, j, _, 2, 2, rfl, rfl, hH, rfl, ?_⟩
    have hS2 : SqL K (upd H j (.lst [.int a, .int b, .int (k + 1)])) j [.int a, .int b, .int (k + 1)] := SqL.of upd_same
    -- the prime
    refine ⟨by show 4 ≤ sizeLine; decide, fun l hl => ?_⟩
    have nlj : j ≠ l := fun z => by rw [← z, upd_same] at hl; cases hl
    have hS3 : SqL K (upd (upd H j (.lst [.int a, .int b, .int (k + 1)])) l (.lst [.int 2305843009213693951, .int 2305843009213693921, .int 2305843009213693907, .int 2305843009213693723])) j [.int a, .int b, .int (k + 1)] := SqL.of (by rw [upd_ne nlj, upd_same])
    obtain ⟨pr, hpr, p0, p1⟩ := prime_at (k + 1)
    refine ⟨.ref j, rfl, j, _, 2, .int (k + 1), rfl, rfl, hS3, rfl, .inl ⟨k + 1, rfl, k + 1, 4, rfl, rfl, (by show (0 : Int) < 4; decide), l, _, (k + 1) % 4, .int pr, rfl, rfl, SqL.of upd_same, hpr, ?_⟩⟩
    -- the mixed number
    have hlim : (c : Int) ≤ 1000000 := by unfold lim at hc; omega
    obtain ⟨s1, s0⟩ := sq_le (k := k + 1) (by omega) (by omega)
    refine ⟨.ref j, rfl, j, _, 1, .int b, rfl, rfl, hS3, rfl, .ref j, rfl, j, _, 2, .int (k + 1), rfl, rfl, hS3, rfl, 104729, k + 1, rfl, rfl, .inl ⟨by decide, by decide⟩, .ref j, rfl, j, _, 2, .int (k + 1), rfl, rfl, hS3, rfl,
      104729 * (k + 1), k + 1, rfl, rfl, .inr ⟨by omega, by omega⟩, b, 104729 * (k + 1) * (k + 1), rfl, rfl, b + 104729 * (k + 1) * (k + 1), 29, rfl, rfl, b + 104729 * (k + 1) * (k + 1) + 29, 3, rfl, rfl, ⟨by decide, by decide, by omega⟩,
      .inl ⟨_, rfl, .int pr, rfl, _, pr, rfl, rfl, p0, ?_⟩⟩
    dsimp only
    generalize hm1 : (b + 104729 * (k + 1) * (k + 1) + 29) ^ Int.toNat 3 % pr = m1
    have m10 : 0 ≤ m1 := by rw [← hm1]; exact Int.emod_nonneg _ (by omega)
    have m11 : m1 < pr := by rw [← hm1]; exact Int.emod_lt_of_pos _ p0
    refine ⟨.int m1, rfl, .int m1, rfl, .inl ⟨m1, rfl, m1, 1000003, rfl, rfl, (by show (0 : Int) < 1000003; decide), .ref j, rfl, j, _, 2, .int (k + 1), rfl, rfl, hS3, rfl, 83, k + 1, rfl, rfl, .inl ⟨by decide, by decide⟩, m1 % 1000003, 83 * (k + 1), rfl, rfl, m1, m1 % 1000003 + 83 * (k + 1), rfl, rfl, .inl ⟨by omega, by omega⟩,
      .inl ⟨_, rfl, .int pr, rfl, _, pr, rfl, rfl, p0, ?_⟩⟩⟩
    dsimp only
    generalize hm2 : m1 * (m1 % 1000003 + 83 * (k + 1)) % pr = m2
    have m20 : 0 ≤ m2 := by rw [← hm2]; exact Int.emod_nonneg _ (by omega)
    refine ⟨.int m2, rfl, m2, 4099, rfl, rfl, wide_div (b := 20) (by decide) (by decide) (by decide) (by decide), .inl ⟨_, rfl, .int n, rfl, _, n, rfl, rfl, by omega, ?_⟩⟩
    have r0 : 0 ≤ m2 / 4099 % n := Int.emod_nonneg _ (by omega)
    have r1 : m2 / 4099 % n < n := Int.emod_lt_of_pos _ (by omega)
    refine q _ _ N (.int (m2 / 4099 % n)) ?_ (.int _) ⟨_, rfl, r0, fun m e => by cases e; exact r1⟩
    have g1 : Go j N H N (upd H j (.lst [.int a, .int b, .int (k + 1)])) (c + 1) := go_set kp hj ⟨a, b, k + 1, upd_same, a0, a1, b0, b1, by omega, by omega⟩
    exact g1.tr (.of (.new hl) ((Nw.rfl g1.hi).more (.new hl)) g1.jar)
theorem ok_of {fT : Addr} {dT : FuncData} (D : Df K mg "_law_of" sOf ["_law_pot_here", "_law_some"] f fd) (B : Blt mg) (T : Df K mg "_law_take" sTake ["_law_pot_here", "_law_many"] fT dT) : FnG P w K mg base CX0 2 f fd ["_law_pot_here", "_law_some"] (spJ 1 preOf 1 postOf) := by
  have kT := ok_take (P := P) (w := w) (base := base) T B
  refine fnJ D.F scOf rfl fun cdv A outer s H E N j c ws ds hg hr hc hw hln hp => ?_
  obtain ⟨d, rfl, hl, l1, l2⟩ := hp
  cases hw with
  | cons h1 h2 =>
  cases h2
  refine JB.imp (k := 0 + (0 + 1)) (P := fun e => e ∈ itemsD d) (jb_ret ?_) (fun e he => ⟨d, rfl, he⟩) (by omega)
  have fin : ∀ (n : Nat), (itemsD d).length = n → (∀ ds : List PyData, ds = [.int (lenD d)] → preTake ds ∧ ds.length = 1) ∧ (∀ (ds : List PyData) e, ds = [.int (lenD d)] → postTake ds e → ∃ r : Int, e = .int r ∧ 0 ≤ r ∧ r < n) := fun n hn => by
    refine ⟨fun ds e => ⟨⟨_, e, by rw [← lenD_items]; omega, by rw [← lenD_items]; omega⟩, by rw [e]; rfl⟩, fun ds e h1 ⟨r, h2, h3, h4⟩ => ⟨r, h2, h3, ?_⟩⟩
    rw [← hn, lenD_items]
    exact h4 _ h1
  cases d with
  | list xs =>
    obtain ⟨f1, f2⟩ := fin xs.length rfl
    refine je_ix (P := fun d => d = .list xs) (P2 := fun _ e => ∃ r : Int, e = .int r ∧ 0 ≤ r ∧ r < (xs.length : Nat)) ix_list (je_de (de_name 1 rfl h1) rfl) (fun d' M hM h0 e => je_call kT hg hr T.g T.F.kp T.b 0 rfl (ja_da (da_cons (de_len (de_name 1 rfl (h1.kp hM)) hl B.len) da_nil) (R := fun ds => ds = [.int (lenD (.list xs))]) rfl) f1 f2 (by omega)) ?_
    rintro _ _ rfl ⟨r, rfl, r0, r1⟩
    obtain ⟨x, e1, e2⟩ := atI_in r0 r1
    exact ⟨x, rd_ixL e1, e2⟩
  | tuple xs =>
    obtain ⟨f1, f2⟩ := fin xs.length rfl
    refine je_ix (P := fun d => d = .tuple xs) (P2 := fun _ e => ∃ r : Int, e = .int r ∧ 0 ≤ r ∧ r < (xs.length : Nat)) ix_tup (je_de (de_name 1 rfl h1) rfl) (fun d' M hM h0 e => je_call kT hg hr T.g T.F.kp T.b 0 rfl (ja_da (da_cons (de_len (de_name 1 rfl (h1.kp hM)) hl B.len) da_nil) (R := fun ds => ds = [.int (lenD (.tuple xs))]) rfl) f1 f2 (by omega)) ?_
    rintro _ _ rfl ⟨r, rfl, r0, r1⟩
    obtain ⟨x, e1, e2⟩ := atI_in r0 r1
    exact ⟨x, rd_ixT e1, e2⟩
  | str x =>
    have e0 : (itemsD (.str x)).length = x.cps.toList.length := by
      show (signs x).length = _
      unfold signs
      rw [List.length_map]
    obtain ⟨f1, f2⟩ := fin _ e0
    refine je_ix (P := fun d => d = .str x) (P2 := fun _ e => ∃ r : Int, e = .int r ∧ 0 ≤ r ∧ r < (x.cps.toList.length : Nat)) ix_str (je_de (de_name 1 rfl h1) rfl) (fun d' M hM h0 e => je_call kT hg hr T.g T.F.kp T.b 0 rfl (ja_da (da_cons (de_len (de_name 1 rfl (h1.kp hM)) hl B.len) da_nil) (R := fun ds => ds = [.int (lenD (.str x))]) rfl) f1 f2 (by omega)) ?_
    rintro _ _ rfl ⟨r, rfl, r0, r1⟩
    have hx : x.length ≤ 1000000 := of_decide_eq_true (show decide (x.length ≤ 1000000) = true from hl)
    obtain ⟨y, e1, e2⟩ := atI_in (xs := x.cps.toList) r0 r1
    refine ⟨_, rd_ixS hx e1, ?_⟩
    show _ ∈ signs x
    unfold signs
    exact List.mem_map.mpr ⟨y, e2, rfl⟩
  | _ => cases hl
/-- a new list to draw from -/
def spPot (K : PySem.W.Frag) : Sp := fun vs H Q _ => ∃ (a : Addr) (ns : List Int) (k : Int), vs = [.ref a, .int k] ∧ SqL K H a (ns.map V.int) ∧ 0 ≤ k ∧ k ≤ 100 ∧ ns.length ≤ 1000 ∧ ∀ j H', Kp H H' → H j = none → Jar H' j 0 → Q (.ref j) H'
theorem scPot : FnScope ["_law_script", "_law_k", "_law_cell", "_law_own", "_law_seed"] ["_law_script", "_law_k"] (defScope sPot) := ⟨rfl, rfl, rfl, by decide +kernel, rfl, by decide +kernel, by decide +kernel⟩
theorem ok_pot (D : Df K mg "_law_pot" sPot ["_law_script", "_law_k"] f fd) (B : Blt mg) : FnG P w K mg base CX0 1 f fd ["_law_script", "_law_k"] (spPot K) := by
  refine fnG D.F scPot (fun vs H Q E ⟨a, ns, k, e, _⟩ => by rw [e]; rfl) fun cdv A outer s H vs Q E hg hr h => WB.nox ?_
  obtain ⟨a, ns, k, rfl, hS, k0, k1, hn, q⟩ := h
  have bi : bootBuiltins "int" = some (.type "int") := by decide +kernel
  have ba : bootBuiltins "abs" = some (.builtin "abs") := by decide +kernel
  have nd := scPot.nd
  refine .on (pss_cons (ps_set (i := 2) nd rfl (.inl rfl) eE) eB) ?_
  refine WE.imp (Q := fun v M => M = H ∧ ∃ x, v = V.int x) (.on (pe_ifExp (pt_cmpR op_lt (pv 1) (pe_callB call_len_seq (by rfl) B.len PySem.boot_len (pa_cons (pv 0) pa_nil)) (nomark _)) (pe_ix ix_list (pv 0) (pv 1) (fun _ _ => rfl)) (pe_op op_add (pe_op op_mul pe_int (pv 1)) pe_int)) ?_) ?_
  · refine ⟨.int k, rfl, .ref a, rfl, a, _, rfl, .inl hS, k, _, rfl, rfl, _, rfl, ite2 (fun e => ?_) (fun e => ?_)⟩
    · have hlt : k < ((ns.map V.int).length : Nat) := of_decide_eq_true e
      have hl : k.toNat < ns.length := by rw [List.length_map] at hlt; omega
      have h1 : (ns.map V.int)[k.toNat]? = some (.int ns[k.toNat]) := by rw [List.getElem?_map, List.getElem?_eq_getElem hl]; rfl
      have h2 := atI_nat h1
      rw [show ((k.toNat : Nat) : Int) = k by omega] at h2
      exact ⟨.ref a, rfl, .int k, rfl, a, _, k, _, rfl, rfl, hS, h2, rfl, _, rfl⟩
    · exact ⟨.int k, rfl, 37, k, rfl, rfl, .inl ⟨by decide, by decide⟩, 37 * k, 3, rfl, rfl, rfl, _, rfl⟩
  · rintro v M ⟨rfl, x, rfl⟩
    show WB _ _ [some (.ref a), some (.int k), some (.int x), none, none] M _
    generalize hy : (if x < 0 then -x else x) = y
    have y0 : 0 ≤ y := by rw [← hy]; split <;> omega
    refine .on (pss_cons (ps_set (i := 3) nd rfl (.inl rfl) eE) eB) ?_
    refine WE.imp (Q := fun v M' => M' = M ∧ ∃ o : Int, v = V.int o ∧ 0 ≤ o ∧ o < big) (.on (pe_op op_mul (pe_op op_mod (pe_callTy call_int1 (by rfl) B.int bi (pa_cons (pe_callB call_abs (by rfl) B.abs ba (pa_cons (pv 2) pa_nil)) pa_nil)) (pe_op op_powW (pe_op op_pow pe_int pe_int) pe_int))
        (pe_callTy call_int1 (by rfl) B.int bi (pa_cons (pe_cmpR op_ge (pe_callB call_abs (by rfl) B.abs ba (pa_cons (pv 2) pa_nil)) (pe_op op_pow pe_int pe_int) (nomark _)) pa_nil))) ?_) ?_
    · refine ⟨.int x, rfl, x, rfl, .inl ⟨_, rfl, 10, 60, rfl, rfl, ⟨by decide, by decide, by decide⟩, (10 : Int) ^ Int.toNat 60, 5, rfl, rfl, ⟨by decide, by decide +kernel⟩, _, ((10 : Int) ^ Int.toNat 60) ^ Int.toNat 5, rfl, rfl, (by show (0 : Int) < ((10 : Int) ^ Int.toNat 60) ^ Int.toNat 5; decide +kernel), .int x, rfl, x, rfl, 10, 18, rfl, rfl, ⟨by decide, by decide, by decide⟩, _, _, rfl, rfl, .inr ⟨_, rfl, ?_⟩⟩⟩
      rw [hy]
      have eb : ((10 : Int) ^ Int.toNat 60) ^ Int.toNat 5 = big := by decide +kernel
      rw [eb]
      have m0 : 0 ≤ y % big := Int.emod_nonneg _ (by decide +kernel)
      have m1 : y % big < big := Int.emod_lt_of_pos _ (by decide +kernel)
      have b0 : (0 : Int) < big := by decide +kernel
      cases hd : decide ((10 : Int) ^ Int.toNat 18 ≤ y) with
      | true => exact ⟨y % big, 1, rfl, rfl, .inr ⟨by decide, by decide⟩, rfl, y % big * 1, rfl, by omega, by omega⟩
      | false => exact ⟨y % big, 0, rfl, rfl, .inr ⟨by decide, by decide⟩, rfl, y % big * 0, rfl, by omega, by omega⟩
    · rintro v M' ⟨rfl, o, rfl, o0, o1⟩
      show WB _ _ [some (.ref a), some (.int k), some (.int x), some (.int o), none] M' _
      refine .on (pss_cons (ps_set (i := 4) nd rfl (.inl rfl) (pe_op op_add (pe_op op_add (pe_op op_mul (pe_op op_mod (pe_callTy call_int1 (by rfl) B.int bi (pa_cons (pv 2) pa_nil)) pe_int) pe_int) (pe_op op_mul (pe_op op_mul pe_int (pv 1)) (pv 1))) pe_int)) eB) ?_
      refine ⟨.int x, rfl, .inl ⟨x, rfl, x, 2305843009213693951, rfl, rfl, (by show (0 : Int) < 2305843009213693951; decide), _, 69653, rfl, rfl, .inr ⟨by decide, by decide⟩, .int k, rfl, 8111, k, rfl, rfl, .inl ⟨by decide, by decide⟩, .int k, rfl, 8111 * k, k, rfl, rfl, .inr ⟨by omega, by omega⟩, _, _, rfl, rfl, _, 47, rfl, rfl, ?_⟩⟩
      show WB _ _ [some (.ref a), some (.int k), some (.int x), some (.int o), some (.int (x % 2305843009213693951 * 69653 + 8111 * k * k + 47))] M' _
      refine .on (pss_one (ps_ret (pe_lst (pa_cons (pv 3) (pa_cons (pe_op op_mod (pe_callTy call_int1 (by rfl) B.int bi (pa_cons (pv 4) pa_nil)) pe_int) (pa_cons pe_int pa_nil)))))) ?_
      refine ⟨.int o, rfl, .int _, rfl, .inl ⟨_, rfl, _, 2305843009213693921, rfl, rfl, (by show (0 : Int) < 2305843009213693921; decide), (by show 3 ≤ sizeLine; decide), fun j hj => ?_⟩⟩
      dsimp only
      generalize hs : (x % 2305843009213693951 * 69653 + 8111 * k * k + 47) % 2305843009213693921 = sd
      have s0 : 0 ≤ sd := by rw [← hs]; exact Int.emod_nonneg _ (by decide)
      have s1 : sd < 2305843009213693921 := by rw [← hs]; exact Int.emod_lt_of_pos _ (by decide)
      exact q j _ (.new hj) hj ⟨o, sd, 0, upd_same, o0, o1, s0, by omega, by decide, by decide⟩
end
end Q
end Fr

set_option Elab.async false
set_option linter.all false
set_option maxRecDepth 100000
set_option maxHeartbeats 1000000
set_option autoImplicit false
namespace Fr
open PySem PySem.Spec PyProof.Rows L2
def fours : List (List Str) := [["a", "b", "c", "d"], ["ab", "abc", "b", "ba"], ["k", "kk", "kkk", "kkkk"]]
def sizes3 : List PyData := [.none, .int 2, .int 999]
abbrev C1 : Type := List Str × PyData
def wideC (a b c : Str) (s : PyData) : C1 := ([a, b, c], s)
def narrC (a : Str) : C1 := ([a], .none)
def ringC (a b c : Str) (s : PyData) : List C1 := [([a, b], .none), ([b, c], s), ([a, c], .none)]
def rtB (q : CK) : Bool := (Q.dCounters (csD q.1) && (decide (wt (csD q.1) ≤ 1000000) && decide (q.1.length ≤ 3))) && (Q.dNames (ksD q.2) && (decide (wt (ksD q.2) ≤ 1000000) && decide (q.2.length ≤ 5)))
def forB (q : CK) : Bool := rtB q && (decide (q.1.length < q.2.length) || (((setF q.1 q.2).find? (goodS q.2)).isSome || !((partsF q.2).filter (shortB q.1)).isEmpty))
def sameB (x y : PyData) : Bool := (x.plain && y.plain) && (decide (min x.depth y.depth ≤ 60) && PyData.eqv x y)
theorem rt_of {q : CK} (h : rtB q = true) : RtCK q := by
  unfold rtB at h
  simp only [Bool.and_eq_true, decide_eq_true_eq] at h
  exact ⟨h.1.1, h.1.2.1, h.1.2.2, h.2.1, h.2.2.1, h.2.2.2⟩
theorem for_of {q : CK} (h : forB q = true) : preFor q := by
  unfold forB at h
  rw [Bool.and_eq_true] at h
  refine ⟨rt_of h.1, fun h1 h2 h3 => ?_⟩
  have h4 := h.2
  rw [decide_eq_false (by omega), h2, h3] at h4
  cases h4
def for2 (x y : C1) (ks : List Str) : Bool := forB ([x, y], ks)
def okBig (a b c d : Str) (s : PyData) : Bool :=
  let W := wideC a b c s
  let N := narrC a
  let R := ringC a b c s
  (forB ([W, W], [b]) && (forB ([W, W], []) && forB ([W, W], [a, b]))) &&
  (sameB (.list [setFor [W, W] [b], setFor [W, W] [], setFor [W, W] [a, b]]) (.list [.tuple [.str "setting", .tuple [.none, .str b]], .tuple [.str "setting", .tuple [.none, .none]], .tuple [.str "setting", .tuple [.str a, .str b]]]) &&
  ((forB ([W, N], [a, b]) && forB ([N, W], [a, c])) &&
  (sameB (.list [setFor [W, N] [a, b], setFor [N, W] [a, c]]) (.list [.tuple [.str "setting", .tuple [.str b, .str a]], .tuple [.str "setting", .tuple [.str a, .str c]]]) &&
  (forB (R, [a, b, c]) && (sameB (setFor R [a, b, c]) (.tuple [.str "setting", .tuple [.str a, .str b, .str c]]) &&
  ((forB ([W, W], [a, b, c]) && forB ([W, N], [a, d])) &&
  (sameB (.list [setFor [W, W] [a, b, c], setFor [W, N] [a, d]]) (.list [.tuple [.str "short", .tuple [.str a, .str b, .str c]], .tuple [.str "short", .tuple [.str d]]]) &&
  ((rtB ([N, N, W], [a, b, c]) && (decide (wt (ksD [b, c]) ≤ 10000) && Q.showsD (csD [N, N, W]) (ksD [a, b, c]) (ksD [b, c]))) &&
  (forB ([N, W, N], [a, b, c]) && (sameB (setFor [N, W, N] [a, b, c]) (.tuple [.str "short", .tuple [.str b, .str c]]) &&
  ((rtB (R, [a, b, c]) && (rtB (R, [a]) && decide (wt (ksD [a, b, c]) ≤ 10000))) &&
  sameB (.list [.bool (Q.showsD (csD R) (ksD [a, b, c]) (ksD [a, b, c])), .bool (Q.showsD (csD R) (ksD [a]) (ksD [])), .bool (suitsD R (ksD [b, b, a])), .bool (suitsD R (ksD [c, b, a])), .bool (suitsD R (.tuple [.none, .none]))]) (.list [.bool false, .bool false, .bool true, .bool false, .bool false]))))))))))))
def okAll : Bool := fours.all fun l => sizes3.all fun s => match l with | [a, b, c, d] => okBig a b c d s | _ => false
theorem ok_all : okAll = true := by decide +kernel
end Fr

set_option Elab.async false
set_option linter.all false
set_option maxRecDepth 100000
set_option maxHeartbeats 1000000
set_option autoImplicit false
namespace Fr
open PySem PySem.Spec PyProof.Rows L2
theorem ne_same {X : Cx} {z : L2.St} {H : Hp} {a b : Expr} {pos : Pos} {x y : PyData} (hu : X.A.units + 64 < cLine) (h : sameB x y = true) (ha : DE X z H a x) (hb : DE X z H b y)
    (hm : behindInMarks .NotEq b = false := by first | rfl | exact nobehind _ (by decide) (by decide)) : DT X z H (.Compare a [.NotEq] [b] pos) false := by
  unfold sameB at h
  rw [Bool.and_eq_true, Bool.and_eq_true, Bool.and_eq_true] at h
  refine DT.to (dt_cmp (op_neX hu) (rd_eqX h.1.1 h.1.2 (of_decide_eq_true h.2.1)) ha hb hm) ?_
  rw [h.2.2]
  rfl
theorem eq_same {X : Cx} {z : L2.St} {H : Hp} {a b : Expr} {pos : Pos} {x y : PyData} (hu : X.A.units + 64 < cLine) (h : sameB x y = true) (ha : DE X z H a x) (hb : DE X z H b y)
    (hm : behindInMarks .Eq b = false := by first | rfl | exact nobehind _ (by decide) (by decide)) : DE X z H (.Compare a [.Eq] [b] pos) (.bool true) := by
  unfold sameB at h
  rw [Bool.and_eq_true, Bool.and_eq_true, Bool.and_eq_true] at h
  refine DE.to (de_cmp (op_eqX hu) (rd_eqX h.1.1 h.1.2 (of_decide_eq_true h.2.1)) ha hb hm) ?_
  rw [h.2.2]
  rfl
section
variable {X : Cx} {z : L2.St} {N H : Hp} {e a b : Expr} {pos : Pos} {d da db d' : PyData}
theorem db_par (i i' : Nat) {x y : Str} {rest : List Stmt} {px py pt pt2 : Pos} {kt k2 : Nat} (ha : DE X z H a da) (hb : DE X z H b db)
    (hr : ∀ v w N, Kp H N → Dat N v da → Dat N w db → DB X ((z.set i (some v)).set i' (some w)) N rest d')
    (hp : ∀ (t : TA), PA X [a, b] t → PS X (.Assign [.Tuple [.Name x px, .Name y py] kt pt] (.Tuple [a, b] k2 pt2) pos) (tPar i i' t))
    (s1 : starEach [a, b] X.env = (false, eval a X.env) :: starEach [b] X.env := by rfl) (s2 : starEach [b] X.env = (false, eval b X.env) :: starEach [] X.env := by rfl) :
    DB X z H (.Assign [.Tuple [.Name x px, .Name y py] kt pt] (.Tuple [a, b] k2 pt2) pos :: rest) d' := fun H1 p D q =>
  .on (pss_cons (hp _ eA) eB) ((da_cons ha (da_cons hb da_nil s2) s1) H1 p _ fun vs H2 N p2 n hv => by
    cases hv with
    | cons h1 hv =>
    cases hv with
    | cons h2 hv =>
    cases hv
    exact ⟨_, _, rfl, hr _ _ N n.lo h1 h2 H2 n.hi D fun v' H3 M p3 m hv' => q _ _ M (p2.tr p3) (n.tr p2 m) hv'⟩)
/-- xs.append(e), xs a list of one's own at l, e a datum -/
theorem ws_appendD (i : Nat) {D : Ends} {o : Str} {l : Addr} {ys : List V} {po pa pc : Pos} (hz : z[i]? = some (some (.ref l))) (kp : Kp N H) (hl : H l = some (.lst ys)) (hn : ys.length < 100000) (he : DE X z N e d)
    (hD : ∀ v K M, Kp H K → Nw N H M K → Dat M v d → D.nx z (upd K l (.lst (ys ++ [v]))))
    (hN : X.N[i]? = some o := by rfl) (hv : Vis X.env.scope o := by first | exact Or.inl rfl | exact Or.inr (Or.inl rfl) | exact Or.inr (Or.inr rfl)) (d1 : (o == ("__debug__" : Str)) = false := by decide) (d2 : (o == ("__classdict__" : Str)) = false := by decide)
    (hbase : attributeBase (.Name o po) "append" X.env (eval (.Name o po) X.env) = eval (.Name o po) X.env := by rfl)
    (hfew : ((backTo pc (starEach [e] X.env)).all (fun x => !x.1) && (backToKw pc (keywordEach [] X.env)).all (fun x => x.1.isSome) && decide (([e] : List Expr).length + ([] : List Keyword).length + (if ([] : List Keyword).isEmpty then 0 else 1) < 30)) = true := by rfl)
    (hline : (pa.endLine == pc.line) = true := by rfl) (s1 : starEach [e] X.env = (false, eval e X.env) :: starEach [] X.env := by rfl) (s3 : (backTo pc (starEach [] X.env)).any (·.1) = false := by rfl)
    (hs : swapsWith (.Call (.Attribute (.Name o po) "append" pa) [e] [] pc) none pos.line X.env = pure false := by rfl) : WS X D z H (.Expr (.Call (.Attribute (.Name o po) "append" pa) [e] [] pc) pos) :=
  .on (ps_expr (pe_bm PySem.F.plainAttrs_list PySem.F.slot_list_append PySem.F.type_list_append mt_append (pe_var hN hv d1 d2) (pa_cons eE pa_nil s1) hbase hfew hline s1 s3) hs)
    ⟨.ref l, hz, .inl ⟨rfl, _, SqL.of hl⟩, he H kp _ fun v K M k n hv => ⟨l, ys, v, rfl, rfl, k _ _ hl, Nat.lt_of_lt_of_le hn (by decide), hD v K M k n hv⟩⟩
end
namespace Q
abbrev sNms : Stmt := topS 28
abbrev sRight : Stmt := topS 29
abbrev nRight : List Str := ["_law_pot_here", "_law_one", "_law_two", "_law_three", "_law_four", "_law_size", "_law_wide", "_law_narrow", "_law_ring", "_law_told"]
theorem scNms : FnScope ["_law_pot_here"] ["_law_pot_here"] (defScope sNms) := ⟨rfl, rfl, rfl, by decide +kernel, rfl, by decide +kernel, by decide +kernel⟩
theorem scRight : FnScope nRight ["_law_pot_here"] (defScope sRight) := ⟨rfl, rfl, rfl, by decide +kernel, rfl, by decide +kernel, by decide +kernel⟩
section
variable {P : Program} {w : World} {K : PySem.W.Frag} {mg : Str → Option Value} {base : Heap} {f : Addr} {fd : FuncData}
def foursD : List PyData := [.list [.str "a", .str "b", .str "c", .str "d"], .list [.str "ab", .str "abc", .str "b", .str "ba"], .list [.str "k", .str "kk", .str "kkk", .str "kkkk"]]
theorem fours_eq : foursD = fours.map fun l => .list (l.map PyData.str) := rfl
theorem ok_nms {fO fT : Addr} {dO dT : FuncData} (D : Df K mg "_law_names" sNms ["_law_pot_here"] f fd) (B : Blt mg) (T : Df K mg "_law_take" sTake ["_law_pot_here", "_law_many"] fT dT) (O : Df K mg "_law_of" sOf ["_law_pot_here", "_law_some"] fO dO) :
    FnG P w K mg base CX0 3 f fd ["_law_pot_here"] (spJ 0 (fun _ => True) 1 (fun _ d => d ∈ foursD)) := by
  have kO := ok_of (P := P) (w := w) (base := base) O B T
  refine fnJ D.F scNms rfl fun cdv A outer s H E N j c ws ds hg hr hc hw hln hp => ?_
  obtain rfl : ds = [] := List.length_eq_zero_iff.mp hln
  cases hw
  have l4 : ∀ {X : Cx} {z : L2.St} {N : Hp} {a b c d : Str} {k1 k2 k3 k4 : Nat} {p1 p2 p3 p4 p5 : Pos}, DE X z N (.List [.Constant (.str a) k1 p1, .Constant (.str b) k2 p2, .Constant (.str c) k3 p3, .Constant (.str d) k4 p4] p5) (.list [.str a, .str b, .str c, .str d]) :=
    fun {X z N a b c d k1 k2 k3 k4 p1 p2 p3 p4 p5} => de_lst (da_cons de_str (da_cons de_str (da_cons de_str (da_cons de_str da_nil)))) (by show 4 ≤ 1000000; decide)
  refine JB.imp (k := 0 + 1) (P := fun e => e ∈ foursD) (jb_ret ?_) (fun e he => he) (by omega)
  set_option smartUnfolding false in
  refine je_call kO hg hr O.g O.F.kp O.b 0 rfl (ja_da (da_cons (de_lst (da_cons l4 (da_cons l4 (da_cons l4 da_nil))) (by show 3 ≤ 1000000; decide)) da_nil) (R := fun ds => ds = [.list foursD]) rfl) (fun ds e => ⟨⟨_, e, rfl, by decide, by decide⟩, by rw [e]; rfl⟩) ?_ (by omega)
  rintro ds d rfl ⟨d', e, hm⟩
  cases e
  exact hm
theorem ok_right {fN fT fO fF fS fI : Addr} {dN dT dO dF dS dI : FuncData} (D : Df K mg "_law_right" sRight ["_law_pot_here"] f fd) (B : Blt mg) (T : Df K mg "_law_take" sTake ["_law_pot_here", "_law_many"] fT dT) (O : Df K mg "_law_of" sOf ["_law_pot_here", "_law_some"] fO dO)
    (Nm : Df K mg "_law_names" sNms ["_law_pot_here"] fN dN) (Fo : Df K mg "setting_for" sFor ["counters", "kinds"] fF dF) (Sh : Df K mg "shows_short" sShows ["counters", "kinds", "value"] fS dS) (Is : Df K mg "is_setting" sIsSet ["counters", "value"] fI dI)
    (kF : FnG P w K mg base CX0 6 fF dF ["counters", "kinds"] (spX inCK preFor fun a => setFor a.1 a.2))
    (kS : FnG P w K mg base CX0 6 fS dS ["counters", "kinds", "value"] (spD 3 preShows fun ds => .bool (showsD (ds.headD .none) (ds.getD 1 .none) (ds.getD 2 .none))))
    (kI : FnG P w K mg base CX0 6 fI dI ["counters", "value"] (spX inCV RtCV fun a => .bool (suitsD a.1 a.2))) :
    FnG P w K mg base CX0 7 f fd ["_law_pot_here"] (spJ 0 (fun _ => True) 2 (fun _ d => d = .bool true)) := by
  have kO := (ok_of (P := P) (w := w) (base := base) O B T).mono (show 2 ≤ 6 by decide)
  have kN := (ok_nms (P := P) (w := w) (base := base) Nm B T O).mono (show 3 ≤ 6 by decide)
  refine fnJ D.F scRight rfl fun cdv A outer s H E N j c ws ds hg hr hc hw hln hp => ?_
  obtain rfl : ds = [] := List.length_eq_zero_iff.mp hln
  cases hw
  have nd := scRight.nd
  have hu : (A.deeper (envOfC "_law_right" (defScope sRight) s.heap.objs.size f cdv)).units + 64 < cLine := hr.units
  intro H0 kp h0 jar D0 hD
  show WB _ D0 [some (.ref j), none, none, none, none, none, none, none, none, none] H0 _
  refine .on (pss_cons (ps_asg eE (pg_lst rfl (pgs_cons (pg_name (i := 1) nd rfl (.inl rfl)) (pgs_cons (pg_name (i := 2) nd rfl (.inl rfl)) (pgs_cons (pg_name (i := 3) nd rfl (.inl rfl)) (pgs_cons (pg_name (i := 4) nd rfl (.inl rfl)) pgs_nil)))))) eB) ?_
  refine JE.go (k := 0 + 1) (P := fun d => d ∈ foursD) ?_ kp h0 jar ?_
  · exact je_call kN hg hr Nm.g Nm.F.kp Nm.b 0 rfl (ja_nil (R := fun ds => ds = []) rfl) (fun ds e => ⟨trivial, by rw [e]; rfl⟩) (fun ds d _ h => h) (by omega)
  rintro v1 H1 M1 d1 g1 hv1 hd1
  rw [fours_eq] at hd1
  obtain ⟨l, hl, rfl⟩ := List.mem_map.mp hd1
  have hok := List.all_eq_true.mp ok_all l hl
  obtain ⟨a, b, c', d, rfl⟩ : ∃ a b c d, l = [a, b, c, d] := by
    unfold fours at hl
    rcases List.mem_cons.mp hl with e | hl
    · exact ⟨_, _, _, _, e⟩
    rcases List.mem_cons.mp hl with e | hl
    · exact ⟨_, _, _, _, e⟩
    rcases List.mem_cons.mp hl with e | hl
    · exact ⟨_, _, _, _, e⟩
    cases hl
  obtain ⟨la, xs, rfl, hl1, hl2⟩ := hv1.lst_inv
  have exs : xs = [V.str a, V.str b, V.str c', V.str d] := DatL.strs (ws := [a, b, c', d]) hl2
  subst exs
  refine ⟨la, _, rfl, SqL.of (g1.hi _ _ hl1), rfl, .str a, _, rfl, .str b, _, rfl, .str c', _, rfl, .str d, [], rfl, rfl, ?_⟩
  show WB _ D0 [some (.ref j), some (.str a), some (.str b), some (.str c'), some (.str d), none, none, none, none, none] H1 _
  refine .on (pss_cons (ps_set (i := 5) nd rfl (.inl rfl) eE) eB) ?_
  refine JE.go (k := 0 + 1) (P := fun d => d ∈ sizes3) ?_ g1.hi (g1.mj h0 jar) g1.jar ?_
  · refine je_call kO hg hr O.g O.F.kp O.b 0 rfl (ja_da (da_cons (de_lst (da_cons de_none (da_cons de_int (da_cons de_int da_nil))) (by show 3 ≤ 1000000; decide)) da_nil) (R := fun ds => ds = [.list sizes3]) rfl) (fun ds e => ⟨⟨_, e, rfl, by decide, by decide⟩, by rw [e]; rfl⟩) ?_ (by omega)
    rintro ds d rfl ⟨d', e, hm⟩
    cases e
    exact hm
  rintro v5 H5 M5 sz g5 hv5 hsz
  have hok : okBig a b c' d sz = true := List.all_eq_true.mp hok sz hsz
  have g15 : Go j N H0 M5 H5 (c + 2) := (g1.tr g5).mono (by omega)
  have gp : Kp M5 H5 := g15.hi
  have fin : ∀ (v : V) (H' M : Hp), Kp H5 H' → Nw M5 H5 M H' → Dat M v (.bool true) → D0.rt v H' := fun v H' M k n hv => hD v H' M _ ((g15.tr (.of k n g15.jar)).mono (by omega)) hv rfl
  clear hD g1 g5 jar kp g15
  show WB _ D0 [some (.ref j), some (.str a), some (.str b), some (.str c'), some (.str d), some v5, none, none, none, none] H5 _
  generalize hW : wideC a b c' sz = W
  generalize hN : narrC a = Nr
  unfold okBig at hok
  rw [hW, hN] at hok
  simp only [Bool.and_eq_true] at hok
  obtain ⟨⟨f1, f2, f3⟩, e1, ⟨f4, f5⟩, e2, f6, e3, ⟨f7, f8⟩, e4, ⟨r1, w1, s1⟩, f9, e5, ⟨r2, r3, w2⟩, e6⟩ := hok
  have goAll : DB (cxOf CX0 P w K mg base nRight "_law_right" (defScope sRight) f cdv A outer s H E).nox [some (.ref j), some (.str a), some (.str b), some (.str c'), some (.str d), some v5, none, none, none, none] M5 ((defBody sRight).drop 2) (.bool true) := by
    have t2 : ∀ {z : L2.St} {M : Hp} {e1 e2 : Expr} {d1 d2 : PyData} {kk : Nat} {p : Pos}, DE (cxOf CX0 P w K mg base nRight "_law_right" (defScope sRight) f cdv A outer s H E).nox z M e1 d1 → DE (cxOf CX0 P w K mg base nRight "_law_right" (defScope sRight) f cdv A outer s H E).nox z M e2 d2 →
        (starEach [e1, e2] (cxOf CX0 P w K mg base nRight "_law_right" (defScope sRight) f cdv A outer s H E).nox.env = (false, eval e1 (cxOf CX0 P w K mg base nRight "_law_right" (defScope sRight) f cdv A outer s H E).nox.env) :: starEach [e2] (cxOf CX0 P w K mg base nRight "_law_right" (defScope sRight) f cdv A outer s H E).nox.env) →
        (starEach [e2] (cxOf CX0 P w K mg base nRight "_law_right" (defScope sRight) f cdv A outer s H E).nox.env = (false, eval e2 (cxOf CX0 P w K mg base nRight "_law_right" (defScope sRight) f cdv A outer s H E).nox.env) :: starEach [] (cxOf CX0 P w K mg base nRight "_law_right" (defScope sRight) f cdv A outer s H E).nox.env) →
        DE (cxOf CX0 P w K mg base nRight "_law_right" (defScope sRight) f cdv A outer s H E).nox z M (.Tuple [e1, e2] kk p) (.tuple [d1, d2]) := fun h1 h2 s1 s2 => de_tup (da_cons h1 (da_cons h2 da_nil s2) s1) (by show 2 ≤ 1000000; decide)
    -- wide, narrow
    refine db_par 6 7 (da := cD W) (db := cD Nr) ?_ ?_ ?_ (fun t ht => ps_par (i := 6) (j := 7) rfl nd rfl rfl (by decide) rfl rfl ht (by rfl))
    · rw [← hW]
      exact de_tup (da_cons (de_tup (da_cons (de_name 1 rfl (.str a)) (da_cons (de_name 2 rfl (.str b)) (da_cons (de_name 3 rfl (.str c')) da_nil))) (by show 3 ≤ 1000000; decide)) (da_cons (de_name 5 rfl hv5) da_nil)) (by show 2 ≤ 1000000; decide)
    · rw [← hN]
      exact de_tup (da_cons (de_tup (da_cons (de_name 1 rfl (.str a)) da_nil) (by show 1 ≤ 1000000; decide)) (da_cons de_none da_nil)) (by show 2 ≤ 1000000; decide)
    intro vW vN M6 p6 hvW hvN
    have hv5 := hv5.kp p6
    show DB _ [some (.ref j), some (.str a), some (.str b), some (.str c'), some (.str d), some v5, some vW, some vN, none, none] M6 _ _
    -- ring
    refine db_set 8 nd (d := csD (ringC a b c' sz)) ?_ ?_
    · exact de_tup (da_cons (de_tup (da_cons (de_tup (da_cons (de_name 1 rfl (.str a)) (da_cons (de_name 2 rfl (.str b)) da_nil)) (by show 2 ≤ 1000000; decide)) (da_cons de_none da_nil)) (by show 2 ≤ 1000000; decide)) (da_cons (de_tup (da_cons (de_tup (da_cons (de_name 2 rfl (.str b)) (da_cons (de_name 3 rfl (.str c')) da_nil)) (by show 2 ≤ 1000000; decide)) (da_cons (de_name 5 rfl hv5) da_nil)) (by show 2 ≤ 1000000; decide)) (da_cons (de_tup (da_cons (de_tup (da_cons (de_name 1 rfl (.str a)) (da_cons (de_name 3 rfl (.str c')) da_nil)) (by show 2 ≤ 1000000; decide)) (da_cons de_none da_nil)) (by show 2 ≤ 1000000; decide)) da_nil))) (by show 3 ≤ 1000000; decide)
    intro vR M7 p7 hvR
    have hvW := hvW.kp p7
    have hvN := hvN.kp p7
    generalize hR : ringC a b c' sz = Rg at hvR f6 e3 r2 r3 e6
    show DB _ [some (.ref j), some (.str a), some (.str b), some (.str c'), some (.str d), some v5, some vW, some vN, some vR, none] M7 _ _
    have pre_sh : ∀ {cs : List C1} {ks vs : List Str}, rtB (cs, ks) = true → wt (ksD vs) ≤ 10000 → preShows [csD cs, ksD ks, ksD vs] := fun {cs ks vs} h1 h2 => by
      have R := rt_of h1
      exact ⟨cs, ks, _, rfl, Nat.le_trans R.cl (by decide), Nat.le_trans R.kl (by decide), R.c, R.cw, R.k, R.kw, h2⟩
    have r2' := rt_of r2
    rw [decide_eq_true_eq] at w1 w2
    have w0 : wt (ksD []) ≤ 10000 := by decide +kernel
    refine db_set 9 nd (d := .list [setFor [W, W] [b], setFor [W, W] [], setFor [W, W] [a, b]]) ?_ ?_
    · set_option smartUnfolding false in
      exact (de_lst (da_cons (de_callX ([W, W], [b]) kF hg hr Fo.g Fo.F.kp Fo.b (da_cons (de_tup (da_cons (de_name 6 rfl hvW) (da_cons (de_name 6 rfl hvW) da_nil)) (by show 2 ≤ 1000000; decide)) (da_cons (de_tup (da_cons (de_name 2 rfl (.str b)) da_nil) (by show 1 ≤ 1000000; decide)) da_nil)) (for_of f1) rfl) (da_cons (de_callX ([W, W], []) kF hg hr Fo.g Fo.F.kp Fo.b (da_cons (de_tup (da_cons (de_name 6 rfl hvW) (da_cons (de_name 6 rfl hvW) da_nil)) (by show 2 ≤ 1000000; decide)) (da_cons (de_tup da_nil (by show 0 ≤ 1000000; decide)) da_nil)) (for_of f2) rfl) (da_cons (de_callX ([W, W], [a, b]) kF hg hr Fo.g Fo.F.kp Fo.b (da_cons (de_tup (da_cons (de_name 6 rfl hvW) (da_cons (de_name 6 rfl hvW) da_nil)) (by show 2 ≤ 1000000; decide)) (da_cons (de_tup (da_cons (de_name 1 rfl (.str a)) (da_cons (de_name 2 rfl (.str b)) da_nil)) (by show 2 ≤ 1000000; decide)) da_nil)) (for_of f3) rfl) da_nil))) (by show 3 ≤ 1000000; decide))
    intro vT1 N1 q1 hvT
    have hvW := hvW.kp q1
    have hvN := hvN.kp q1
    have hvR := hvR.kp q1
    show DB _ [some (.ref j), some (.str a), some (.str b), some (.str c'), some (.str d), some v5, some vW, some vN, some vR, some vT1] N1 _ _
    refine db_if (k := false) ?_ (fun q => nomatch q) (fun _ => ?_)
    · set_option smartUnfolding false in
      exact ne_same hu e1 (de_name 9 rfl hvT) (de_lst (da_cons (de_tup (da_cons de_str (da_cons (de_tup (da_cons de_none (da_cons (de_name 2 rfl (.str b)) da_nil)) (by show 2 ≤ 1000000; decide)) da_nil)) (by show 2 ≤ 1000000; decide)) (da_cons (de_tup (da_cons de_str (da_cons (de_tup (da_cons de_none (da_cons de_none da_nil)) (by show 2 ≤ 1000000; decide)) da_nil)) (by show 2 ≤ 1000000; decide)) (da_cons (de_tup (da_cons de_str (da_cons (de_tup (da_cons (de_name 1 rfl (.str a)) (da_cons (de_name 2 rfl (.str b)) da_nil)) (by show 2 ≤ 1000000; decide)) da_nil)) (by show 2 ≤ 1000000; decide)) da_nil))) (by show 3 ≤ 1000000; decide))
    show DB _ [some (.ref j), some (.str a), some (.str b), some (.str c'), some (.str d), some v5, some vW, some vN, some vR, some vT1] N1 _ _
    refine db_set 9 nd (d := .list [setFor [W, Nr] [a, b], setFor [Nr, W] [a, c']]) ?_ ?_
    · set_option smartUnfolding false in
      exact (de_lst (da_cons (de_callX ([W, Nr], [a, b]) kF hg hr Fo.g Fo.F.kp Fo.b (da_cons (de_tup (da_cons (de_name 6 rfl hvW) (da_cons (de_name 7 rfl hvN) da_nil)) (by show 2 ≤ 1000000; decide)) (da_cons (de_tup (da_cons (de_name 1 rfl (.str a)) (da_cons (de_name 2 rfl (.str b)) da_nil)) (by show 2 ≤ 1000000; decide)) da_nil)) (for_of f4) rfl) (da_cons (de_callX ([Nr, W], [a, c']) kF hg hr Fo.g Fo.F.kp Fo.b (da_cons (de_tup (da_cons (de_name 7 rfl hvN) (da_cons (de_name 6 rfl hvW) da_nil)) (by show 2 ≤ 1000000; decide)) (da_cons (de_tup (da_cons (de_name 1 rfl (.str a)) (da_cons (de_name 3 rfl (.str c')) da_nil)) (by show 2 ≤ 1000000; decide)) da_nil)) (for_of f5) rfl) da_nil)) (by show 2 ≤ 1000000; decide))
    intro vT2 N2 q2 hvT
    have hvW := hvW.kp q2
    have hvN := hvN.kp q2
    have hvR := hvR.kp q2
    show DB _ [some (.ref j), some (.str a), some (.str b), some (.str c'), some (.str d), some v5, some vW, some vN, some vR, some vT2] N2 _ _
    refine db_if (k := false) ?_ (fun q => nomatch q) (fun _ => ?_)
    · set_option smartUnfolding false in
      exact ne_same hu e2 (de_name 9 rfl hvT) (de_lst (da_cons (de_tup (da_cons de_str (da_cons (de_tup (da_cons (de_name 2 rfl (.str b)) (da_cons (de_name 1 rfl (.str a)) da_nil)) (by show 2 ≤ 1000000; decide)) da_nil)) (by show 2 ≤ 1000000; decide)) (da_cons (de_tup (da_cons de_str (da_cons (de_tup (da_cons (de_name 1 rfl (.str a)) (da_cons (de_name 3 rfl (.str c')) da_nil)) (by show 2 ≤ 1000000; decide)) da_nil)) (by show 2 ≤ 1000000; decide)) da_nil)) (by show 2 ≤ 1000000; decide))
    show DB _ [some (.ref j), some (.str a), some (.str b), some (.str c'), some (.str d), some v5, some vW, some vN, some vR, some vT2] N2 _ _
    refine db_if (k := false) ?_ (fun q => nomatch q) (fun _ => ?_)
    · set_option smartUnfolding false in
      exact ne_same hu e3 (de_callX (Rg, [a, b, c']) kF hg hr Fo.g Fo.F.kp Fo.b (da_cons (de_name 8 rfl hvR) (da_cons (de_tup (da_cons (de_name 1 rfl (.str a)) (da_cons (de_name 2 rfl (.str b)) (da_cons (de_name 3 rfl (.str c')) da_nil))) (by show 3 ≤ 1000000; decide)) da_nil)) (for_of f6) rfl) (de_tup (da_cons de_str (da_cons (de_tup (da_cons (de_name 1 rfl (.str a)) (da_cons (de_name 2 rfl (.str b)) (da_cons (de_name 3 rfl (.str c')) da_nil))) (by show 3 ≤ 1000000; decide)) da_nil)) (by show 2 ≤ 1000000; decide))
    show DB _ [some (.ref j), some (.str a), some (.str b), some (.str c'), some (.str d), some v5, some vW, some vN, some vR, some vT2] N2 _ _
    refine db_set 9 nd (d := .list [setFor [W, W] [a, b, c'], setFor [W, Nr] [a, d]]) ?_ ?_
    · set_option smartUnfolding false in
      exact (de_lst (da_cons (de_callX ([W, W], [a, b, c']) kF hg hr Fo.g Fo.F.kp Fo.b (da_cons (de_tup (da_cons (de_name 6 rfl hvW) (da_cons (de_name 6 rfl hvW) da_nil)) (by show 2 ≤ 1000000; decide)) (da_cons (de_tup (da_cons (de_name 1 rfl (.str a)) (da_cons (de_name 2 rfl (.str b)) (da_cons (de_name 3 rfl (.str c')) da_nil))) (by show 3 ≤ 1000000; decide)) da_nil)) (for_of f7) rfl) (da_cons (de_callX ([W, Nr], [a, d]) kF hg hr Fo.g Fo.F.kp Fo.b (da_cons (de_tup (da_cons (de_name 6 rfl hvW) (da_cons (de_name 7 rfl hvN) da_nil)) (by show 2 ≤ 1000000; decide)) (da_cons (de_tup (da_cons (de_name 1 rfl (.str a)) (da_cons (de_name 4 rfl (.str d)) da_nil)) (by show 2 ≤ 1000000; decide)) da_nil)) (for_of f8) rfl) da_nil)) (by show 2 ≤ 1000000; decide))
    intro vT3 N3 q3 hvT
    have hvW := hvW.kp q3
    have hvN := hvN.kp q3
    have hvR := hvR.kp q3
    show DB _ [some (.ref j), some (.str a), some (.str b), some (.str c'), some (.str d), some v5, some vW, some vN, some vR, some vT3] N3 _ _
    refine db_if (k := false) ?_ (fun q => nomatch q) (fun _ => ?_)
    · set_option smartUnfolding false in
      exact ne_same hu e4 (de_name 9 rfl hvT) (de_lst (da_cons (de_tup (da_cons de_str (da_cons (de_tup (da_cons (de_name 1 rfl (.str a)) (da_cons (de_name 2 rfl (.str b)) (da_cons (de_name 3 rfl (.str c')) da_nil))) (by show 3 ≤ 1000000; decide)) da_nil)) (by show 2 ≤ 1000000; decide)) (da_cons (de_tup (da_cons de_str (da_cons (de_tup (da_cons (de_name 4 rfl (.str d)) da_nil) (by show 1 ≤ 1000000; decide)) da_nil)) (by show 2 ≤ 1000000; decide)) da_nil)) (by show 2 ≤ 1000000; decide))
    show DB _ [some (.ref j), some (.str a), some (.str b), some (.str c'), some (.str d), some v5, some vW, some vN, some vR, some vT3] N3 _ _
    refine db_if (k := false) ?_ (fun q => nomatch q) (fun _ => ?_)
    · refine DT.to (dt_not (dt_val (de_call (d := .bool (showsD (csD [Nr, Nr, W]) (ksD [a, b, c']) (ksD [b, c']))) kS hg hr Sh.g Sh.F.kp Sh.b (da_cons (de_tup (da_cons (de_name 7 rfl hvN) (da_cons (de_name 7 rfl hvN) (da_cons (de_name 6 rfl hvW) da_nil))) (by show 3 ≤ 1000000; decide)) (da_cons (de_tup (da_cons (de_name 1 rfl (.str a)) (da_cons (de_name 2 rfl (.str b)) (da_cons (de_name 3 rfl (.str c')) da_nil))) (by show 3 ≤ 1000000; decide)) (da_cons (de_tup (da_cons (de_name 2 rfl (.str b)) (da_cons (de_name 3 rfl (.str c')) da_nil)) (by show 2 ≤ 1000000; decide)) da_nil))) (pre_sh r1 w1) rfl))) (by rw [s1]; rfl)
    show DB _ [some (.ref j), some (.str a), some (.str b), some (.str c'), some (.str d), some v5, some vW, some vN, some vR, some vT3] N3 _ _
    refine db_if (k := false) ?_ (fun q => nomatch q) (fun _ => ?_)
    · set_option smartUnfolding false in
      exact ne_same hu e5 (de_callX ([Nr, W, Nr], [a, b, c']) kF hg hr Fo.g Fo.F.kp Fo.b (da_cons (de_tup (da_cons (de_name 7 rfl hvN) (da_cons (de_name 6 rfl hvW) (da_cons (de_name 7 rfl hvN) da_nil))) (by show 3 ≤ 1000000; decide)) (da_cons (de_tup (da_cons (de_name 1 rfl (.str a)) (da_cons (de_name 2 rfl (.str b)) (da_cons (de_name 3 rfl (.str c')) da_nil))) (by show 3 ≤ 1000000; decide)) da_nil)) (for_of f9) rfl) (de_tup (da_cons de_str (da_cons (de_tup (da_cons (de_name 2 rfl (.str b)) (da_cons (de_name 3 rfl (.str c')) da_nil)) (by show 2 ≤ 1000000; decide)) da_nil)) (by show 2 ≤ 1000000; decide))
    show DB _ [some (.ref j), some (.str a), some (.str b), some (.str c'), some (.str d), some v5, some vW, some vN, some vR, some vT3] N3 _ _
    refine db_set 9 nd (d := .list [.bool (showsD (csD Rg) (ksD [a, b, c']) (ksD [a, b, c'])), .bool (showsD (csD Rg) (ksD [a]) (ksD []))]) ?_ ?_
    · exact (de_lst (da_cons (de_call (d := .bool (showsD (csD Rg) (ksD [a, b, c']) (ksD [a, b, c']))) kS hg hr Sh.g Sh.F.kp Sh.b (da_cons (de_name 8 rfl hvR) (da_cons (de_tup (da_cons (de_name 1 rfl (.str a)) (da_cons (de_name 2 rfl (.str b)) (da_cons (de_name 3 rfl (.str c')) da_nil))) (by show 3 ≤ 1000000; decide)) (da_cons (de_tup (da_cons (de_name 1 rfl (.str a)) (da_cons (de_name 2 rfl (.str b)) (da_cons (de_name 3 rfl (.str c')) da_nil))) (by show 3 ≤ 1000000; decide)) da_nil))) (pre_sh r2 w2) rfl) (da_cons (de_call (d := .bool (showsD (csD Rg) (ksD [a]) (ksD []))) kS hg hr Sh.g Sh.F.kp Sh.b (da_cons (de_name 8 rfl hvR) (da_cons (de_tup (da_cons (de_name 1 rfl (.str a)) da_nil) (by show 1 ≤ 1000000; decide)) (da_cons (de_tup da_nil (by show 0 ≤ 1000000; decide)) da_nil))) (pre_sh r3 w0) rfl) da_nil)) (by show 2 ≤ 1000000; decide))
    intro vT4 N4 q4 hvT
    have hvW := hvW.kp q4
    have hvN := hvN.kp q4
    have hvR := hvR.kp q4
    show DB _ [some (.ref j), some (.str a), some (.str b), some (.str c'), some (.str d), some v5, some vW, some vN, some vR, some vT4] N4 _ _
    intro H7 p8 D q8
    refine .on (pss_cons (ps_set (i := 9) nd rfl (.inl rfl) (pe_op op_cat eE eE)) eB) ?_
    refine DE.go (N := N4) (de_name 9 rfl hvT) p8 ?_
    intro vX K1 M1 k1 n1 hvX
    refine DE.go (N := M1) (d := .list [.bool (suitsD Rg (ksD [b, b, a])), .bool (suitsD Rg (ksD [c', b, a]))]) ?_ n1.hi ?_
    · have hvR := hvR.kp n1.lo
      exact (de_lst (da_cons (de_callX (Rg, ksD [b, b, a]) kI hg hr Is.g Is.F.kp Is.b (da_cons (de_name 8 rfl hvR) (da_cons (de_tup (da_cons (de_name 2 rfl (.str b)) (da_cons (de_name 2 rfl (.str b)) (da_cons (de_name 1 rfl (.str a)) da_nil))) (by show 3 ≤ 1000000; decide)) da_nil)) ⟨r2'.c, r2'.cw, r2'.cl⟩ rfl) (da_cons (de_callX (Rg, ksD [c', b, a]) kI hg hr Is.g Is.F.kp Is.b (da_cons (de_name 8 rfl hvR) (da_cons (de_tup (da_cons (de_name 3 rfl (.str c')) (da_cons (de_name 2 rfl (.str b)) (da_cons (de_name 1 rfl (.str a)) da_nil))) (by show 3 ≤ 1000000; decide)) da_nil)) ⟨r2'.c, r2'.cw, r2'.cl⟩ rfl) da_nil)) (by show 2 ≤ 1000000; decide))
    intro vY K2 M2 k2 n2 hvY
    obtain ⟨lx, us, rfl, x1, x2⟩ := (hvX.kp n2.lo).lst_inv
    obtain ⟨ly, ws, rfl, y1, y2⟩ := hvY.lst_inv
    refine ⟨lx, ly, us, ws, rfl, rfl, n2.hi _ _ x1, n2.hi _ _ y1, big_of (by rw [x2.len, y2.len]; show 2 + 2 ≤ 1000000; decide), fun l hl => ?_⟩
    have n12 := n1.tr k1 n2
    have k12 := k1.tr k2
    have hH7l : H7 l = none := k12.none hl
    have hM2l : M2 l = none := n2.hi.none hl
    have hvR := (hvR.kp n1.lo).kp n2.lo
    have gsm : Kp K2 (upd K2 l (.lst (us ++ ws))) := .new hl
    show WB _ _ [some (.ref j), some (.str a), some (.str b), some (.str c'), some (.str d), some v5, some vW, some vN, some vR, some (.ref l)] (upd K2 l (.lst (us ++ ws))) _
    refine .on (pss_cons eS eB) ?_
    refine ws_appendD 9 (N := M2) (d := .bool (suitsD Rg (.tuple [.none, .none]))) rfl (n2.hi.tr gsm) upd_same (by rw [List.length_append, x2.len, y2.len]; show 2 + 2 < 100000; decide) (de_callX (Rg, .tuple [.none, .none]) kI hg hr Is.g Is.F.kp Is.b (da_cons (de_name 8 rfl hvR) (da_cons (de_tup (da_cons de_none (da_cons de_none da_nil)) (by show 2 ≤ 1000000; decide)) da_nil)) ⟨r2'.c, r2'.cw, r2'.cl⟩ rfl) ?_
    intro vZ K3 M3 k3 n3 hvZ
    have hM3l : M3 l = none := n3.off l hM2l (by rw [upd_same]; exact fun q => nomatch q)
    have hd9 : Dat (upd M3 l (.lst ((us ++ ws) ++ [vZ]))) (.ref l) (.list [.bool (showsD (csD Rg) (ksD [a, b, c']) (ksD [a, b, c'])), .bool (showsD (csD Rg) (ksD [a]) (ksD [])), .bool (suitsD Rg (ksD [b, b, a])), .bool (suitsD Rg (ksD [c', b, a])), .bool (suitsD Rg (.tuple [.none, .none]))]) :=
      .lst upd_same (((((x2.app y2).kp n3.lo).app (.cons hvZ .nil))).kp (.new hM3l))
    have kp9 : Kp (upd M3 l (.lst ((us ++ ws) ++ [vZ]))) (upd K3 l (.lst ((us ++ ws) ++ [vZ]))) := fun b o e => by
      by_cases hb : b = l
      · subst hb
        rw [upd_same] at e ⊢
        exact e
      · rw [upd_ne hb] at e ⊢
        exact n3.hi b o e
    have kH : Kp H7 (upd K3 l (.lst ((us ++ ws) ++ [vZ]))) := fun b o e => by
      have hb : b ≠ l := fun z => by rw [z, hH7l] at e; cases e
      rw [upd_ne hb]
      exact (k12.tr (gsm.tr k3)) b o e
    have nH : Nw N4 H7 (upd M3 l (.lst ((us ++ ws) ++ [vZ]))) (upd K3 l (.lst ((us ++ ws) ++ [vZ]))) :=
      ⟨(n12.lo.tr n3.lo).tr (.new hM3l), kp9, fun b h h1 => by
        have hb : b ≠ l := fun z => h1 (z ▸ hH7l)
        rw [upd_ne hb]
        refine n3.off b (n12.off b h h1) fun e => ?_
        rw [upd_ne hb] at e
        exact h1 (k12.none e)⟩
    refine .on (pss_one (ps_ret eE)) ?_
    refine DE.go (N := upd M3 l (.lst ((us ++ ws) ++ [vZ]))) (d := .bool true) ?_ kp9 ?_
    · exact eq_same hu e6 (de_name 9 rfl hd9) (de_lst (da_cons de_bl (da_cons de_bl (da_cons de_bl (da_cons de_bl (da_cons de_bl da_nil))))) (by show 5 ≤ 1000000; decide))
    intro v K9 M9 k9 n9 hv
    exact q8 v K9 M9 (kH.tr k9) (nH.tr kH n9) hv
  exact goAll H5 gp D0 fin
end
end Q
end Fr

set_option Elab.async false
set_option linter.all false
set_option maxRecDepth 100000
set_option maxHeartbeats 1000000
set_option autoImplicit false
namespace Fr
open PySem PySem.Spec PyProof.Rows L2
theorem trues : ∀ {es : List PyData}, (∀ e ∈ es, e = .bool true) → ∃ bs : List Bool, es = bs.map PyData.bool ∧ bs.all id = true
  | [], _ => ⟨[], rfl, rfl⟩
  | e :: es, h => by
    obtain ⟨bs, h1, h2⟩ := trues fun x hx => h x (List.mem_cons_of_mem _ hx)
    refine ⟨true :: bs, ?_, ?_⟩
    · rw [List.map_cons, ← h1, h e List.mem_cons_self]
    · rw [List.all_cons, h2]
      rfl
section
variable {X : Cx} {z : L2.St} {N : Hp} {j : Addr} {c k : Nat} {e : Expr} {pos p : Pos} {R : List PyData → Prop}
theorem je_allT (he : JE X z N j c e k (fun d => ∃ es ds : List PyData, d = .list es ∧ R ds ∧ es.length = ds.length ∧ ∀ e ∈ es, e = .bool true)) (hc : X.calm = true) (h1 : X.mg "all" = none) (g1 : Gl X "all" := by rfl) (hb : bootBuiltins "all" = some (.builtin "all") := by decide +kernel)
    (s1 : starEach [e] X.env = (false, eval e X.env) :: starEach [] X.env := by rfl) (s3 : (backTo pos (starEach [] X.env)).any (·.1) = false := by rfl) : JE X z N j c (.Call (.Name "all" p) [e] [] pos) k (fun d => d = .bool true) := fun H kp h0 q Q hQ =>
  .on (pe_callB (cr_all hc) g1 h1 hb (pa_cons eE pa_nil s1) (he := s1) (hpl := s3))
    (he H kp h0 q _ fun v H2 M d g hv ⟨es, ds, e1, _, _, hall⟩ => by
      subst e1
      obtain ⟨bs, rfl, ht⟩ := trues hall
      obtain ⟨l, xs, rfl, h1, h2⟩ := hv.lst_inv
      rw [h2.bools] at h1
      refine ⟨l, bs, rfl, SqL.of (g.hi _ _ h1), ?_⟩
      rw [ht]
      exact hQ _ _ M _ g (.bl _) rfl)
end
namespace Q
abbrev sLaw : Stmt := topS 30
abbrev nLaw : List Str := ["_law_script", "_law_k", "_law_pot_here", "_law_turn"]
theorem scLaw : FnScope nLaw ["_law_script"] (defScope sLaw) := ⟨rfl, rfl, rfl, by decide +kernel, rfl, by decide +kernel, by decide +kernel⟩
def spLaw (K : PySem.W.Frag) : Sp := fun vs H Q _ => ∃ (a : Addr) (ns : List Int), vs = [.ref a] ∧ SqL K H a (ns.map V.int) ∧ ns.length ≤ 63 ∧ ∀ H', Q (.bl true) H'
section
variable {P : Program} {w : World} {K : PySem.W.Frag} {mg : Str → Option Value} {base : Heap} {f : Addr} {fd : FuncData}
theorem ok_law {fJ fR : Addr} {dJ dR : FuncData} (D : Df K mg "law" sLaw ["_law_script"] f fd) (B : Blt mg) (J : Df K mg "_law_pot" sPot ["_law_script", "_law_k"] fJ dJ) (Ri : Df K mg "_law_right" sRight ["_law_pot_here"] fR dR)
    (kR : FnG P w K mg base CX0 7 fR dR ["_law_pot_here"] (spJ 0 (fun _ => True) 2 (fun _ d => d = .bool true))) : FnG P w K mg base CX0 8 f fd ["_law_script"] (spLaw K) := by
  have kJ := (ok_pot (P := P) (w := w) (base := base) J B).mono (show 1 ≤ 7 by decide)
  refine fnG D.F scLaw (fun vs H Q E ⟨a, ns, e, _⟩ => by rw [e]; rfl) fun cdv A outer s H vs Q E hg hr h => WB.nox ?_
  obtain ⟨a, ns, rfl, hS, hl, hq⟩ := h
  have nd := scLaw.nd
  show WB _ _ [some (.ref a), none, none, none] H _
  obtain ⟨cnt, hcnt, hc2⟩ : ∃ cnt : Nat, (if (if ((ns.map V.int).length : Int) < 2 then ((ns.map V.int).length : Int) else 2) > 1 then (if ((ns.map V.int).length : Int) < 2 then ((ns.map V.int).length : Int) else 2) else 1) = (cnt : Int) ∧ cnt ≤ 2 := by
    refine ⟨(if (if ((ns.map V.int).length : Int) < 2 then ((ns.map V.int).length : Int) else 2) > 1 then (if ((ns.map V.int).length : Int) < 2 then ((ns.map V.int).length : Int) else 2) else 1).toNat, ?_, ?_⟩
    · split <;> omega
    · split <;> split at * <;> omega
  refine .on (pss_cons eS eB) ?_
  refine ws_for (N := H) (ds := upTo cnt) (g := gName 1) (fun _ => rfl) PassesOwn.never rfl ⟨_, pi_range1 rfl B.range (pa_cons (pe_callB (call_max2 rfl) rfl B.max boot_max (pa_cons pe_int (pa_cons (pe_callB (call_min2 rfl) rfl B.min boot_min (pa_cons pe_int (pa_cons (pe_callB call_len_seq (by rfl) B.len PySem.boot_len (pa_cons (pv 0) pa_nil)) pa_nil))) pa_nil))) pa_nil), fun H1 q R r => ?_⟩ (pg_name nd rfl (.inl rfl)) .rfl ?_
  · refine ⟨.ref a, rfl, a, _, rfl, .inl (SqL.kp hS q), 2, _, rfl, 1, _, rfl, (cnt : Int), ?_, by omega, by omega, ?_⟩
    · rw [hcnt]
    · exact r _ _ H .rfl (.rfl q) itd_range
  · intro H2 N1 p2 n2
    have hS2 : SqL K N1 a (ns.map V.int) := SqL.kp hS n2.lo
    refine ⟨fun i z K' => ∃ s1 s2, z = [some (.ref a), s1, s2, none] ∧ Kp N1 K', ⟨_, _, rfl, n2.hi⟩, fun i z K' ⟨_, _, _, h⟩ => h, ?_, ?_⟩
    · rintro i d hd z K1 ⟨s1, s2, rfl, hN⟩ v K2 M k12 nM hv
      have hd' : i < cnt ∧ d = .int (i : Nat) := by
        unfold upTo at hd
        rw [List.getElem?_map] at hd
        by_cases hi : i < cnt
        · rw [List.getElem?_range hi] at hd
          exact ⟨hi, (Option.some.inj hd).symm⟩
        · rw [List.getElem?_eq_none (by rw [List.length_range]; omega)] at hd
          cases hd
      obtain ⟨hi, rfl⟩ := hd'
      obtain rfl := hv.int_inv
      have hN2 : Kp N1 K2 := hN.tr k12
      show WB _ _ [some (.ref a), some (.int (i : Nat)), s2, none] K2 _
      refine .on (pss_cons (ps_set (i := 2) nd rfl (.inr rfl) eE) eB) ?_
      refine .on (pe_callG kJ hg (hr.mono (by decide)) J.g J.F.kp J.b .nil pass0 (pa_cons (pv 0) (pa_cons (pv 1) pa_nil))) ?_
      refine ⟨.ref a, rfl, .int (i : Nat), rfl, a, ns, (i : Nat), rfl, SqL.kp hS2 hN2, by omega, by omega, by omega, fun j H' k' hj jar => ?_⟩
      show WB _ _ [some (.ref a), some (.int (i : Nat)), some (.ref j), none] H' _
      refine .on (pss_one (ps_if eT eB pss_nil)) ?_
      refine .on (pt_not (pt_val eE)) ?_
      refine JE.go (N := K2) (j := j) (c := 0) (k := 0 + 4 * (0 + 2)) (P := fun d => d = .bool true) ?_ k' hj jar ?_
      · refine je_allT (R := fun ds => ∃ n : Nat, ds = upTo n ∧ 4 ≤ n ∧ n ≤ 4) (je_lc (own := [("_law_turn", 3)]) (g := gName 3) (L := 4) (l := 0 + 2) (k := 0) (P := fun e => e = .bool true) (R := fun ds => ∃ n : Nat, ds = upTo n ∧ 4 ≤ n ∧ n ≤ 4) (ji_range (lo := 4) (hi := 4) (je_de de_int ⟨4, rfl, by decide, by decide⟩) (by decide) B.range) ?_ (by decide) rfl nd (blkOk_by (N := nLaw) (sc := defScope sLaw) (by decide +kernel)) (fun _ _ _ _ _ => pg_name nd rfl (.inl rfl)) ?_ (fun _ => rfl)) rfl B.all
        · rintro ds ⟨n, rfl, n1, n2⟩
          rw [upTo_len]
          exact n2
        · rintro ds i2 d2 ⟨n, rfl, n1, n3⟩ hd2 v2 M2 K4 Q' hM hMj hMK hv2 hQ2
          have hi2 : i2 < 4 := by
            have := (List.getElem?_eq_some_iff.mp hd2).1
            rw [upTo_len] at this
            omega
          refine hQ2 _ rfl fun s3 M0 C cl fp => ?_
          exact je_call kR hg (hr.mono (by decide)) Ri.g Ri.F.kp Ri.b 2 rfl (ja_nil (R := fun ds => ds = []) rfl) (fun ds e => ⟨trivial, by rw [e]; rfl⟩) (fun ds d _ h => h) (by show 0 + 0 + i2 * (0 + 2) + (0 + 2) ≤ 1000000; omega)
      · rintro v' K' M' d' g' hv' rfl
        obtain rfl := hv'.bool_inv
        refine ⟨true, rfl, ?_⟩
        show if (!true) = true then _ else _
        rw [if_neg (by decide)]
        exact ⟨_, _, rfl, (hN2.tr g'.lo).tr g'.hi⟩
    · rintro z K1 ⟨s1, s2, rfl, hN⟩
      show WB _ _ [some (.ref a), s1, s2, none] K1 _
      refine .on (pss_one (ps_ret eE)) ?_
      refine DE.go (N := N1) (d := .bool true) de_bl hN ?_
      intro v' K6 N6 p6 n6 hv'
      obtain rfl := hv'.bool_inv
      exact hq K6
end
end Q
end Fr

set_option Elab.async false
set_option linter.all false
set_option maxRecDepth 100000
set_option maxHeartbeats 1000000
set_option autoImplicit false
namespace Fr
open PySem PySem.Spec PyProof.Rows L2

/-! the end: the law is called where no guard stands, and nothing is told of the object at sysModules but that it stands -/
section
variable {P : Program} {w : World} {K : PySem.W.Frag} {mg mb : Str → Option Value} {k : Nat} {fa a : Addr} {fd : FuncData} {x : Str} {sp : Sp} {s₁ : Shared} {vs : List Value} {ns : List Int}
abbrev obj1 (vs : List Value) : Obj := { cls := .type "list", data := .seq vs.toArray }
abbrev Right1 (s₁ : Shared) (r : Result) (s' : Shared) : Prop :=
  r = .ok (.ret (.bool true)) ∧
    OldK s₁.heap s'.heap ∧ s'.os = s₁.os ∧
    AllBare s'.gens
theorem law_go (KX : K.In s₁.heap) (nsM : s₁.heap.Ns mainGlobals mg) (nsB : s₁.heap.Ns builtinsNs mb)
    (boot : ∀ y : Str, y ≠ "__name__" → mb y = bootBuiltins y) (free : s₁.heap.NoLimit) (noG : s₁.gens = #[])
    (atA : s₁.heap.get? a = some (obj1 vs)) (hwn : IntsAre vs ns) (few : ns.length ≤ sizeLine)
    (low : a ≠ sysModules) (sys : ∃ o, s₁.heap.get? sysModules = some o) (room : Room k callerA)
    (F : ∀ base : Heap, K.In base → base.Ns mainGlobals mg → SysD base →
      FnG P w K mg base CX0 k fa fd [x] sp)
    (bind : ∀ (s : Shared) (u : Value), BindsTo s fd ⟨[u], []⟩ [(x, u)])
    (want : ∀ T : Hp, SqL K T a (ns.map V.int) →
      sp [.ref a] T (fun v _ => v = .bl true) E0) :
    codeAny (model P w) callerA (.call (.ref fa) ⟨[.ref a], []⟩) (Right1 s₁) s₁ := by
  have same : vs.length = ns.length := hwn.length
  have main : ∀ T : Hp, (∀ b u, T b = some u → b = a ∧ K.lookup a = none ∧ ∃ o xs, u = .frz o (.lst xs)) →
      SqL K T a (ns.map V.int) → HOk P w T s₁.heap →
      codeAny (model P w) callerA (.call (.ref fa) ⟨[.ref a], []⟩) (Right1 s₁) s₁ := by
    intro T only sq ok
    have put : ∀ {b : Addr} {o : Obj}, s₁.heap.get? b = some o →
        T b = none → (hidT s₁.heap T).get? b = some o := fun e n => hidT_get e n
    have notA : ∀ {b : Addr}, b ≠ a → T b = none := fun {b} hb => by
      cases e : T b with
      | none => rfl
      | some u => exact absurd (only b u e).1 hb
    have dic : ∀ {b : Addr} {m : Str → Option Value}, s₁.heap.Ns b m → (hidT s₁.heap T).Ns b m := by
      rintro b m ⟨o, es, ep, e, d, r⟩
      refine ⟨o, es, ep, put e (notA ?_), d, r⟩
      rintro rfl
      rw [atA] at e
      cases e
      have d' : Data.seq vs.toArray _ = Data.dict es ep := d
      cases d'
    have inB : K.In (hidT s₁.heap T) := fun b o e => put (KX b o e) (by
      cases q : T b with
      | none => rfl
      | some u =>
        obtain ⟨h1, h2, _⟩ := only b u q
        rw [h1, h2] at e
        cases e)
    have lim0 : (hidT s₁.heap T).NoLimit := by
      obtain ⟨mc, h1, h2⟩ := free
      exact ⟨mc, dic h1, h2⟩
    have sysB : SysD (hidT s₁.heap T) := by
      obtain ⟨o, e⟩ := sys
      exact ⟨o, put e (notA (Ne.symm low))⟩
    have none0 : ∀ b, b ∉ ([] : List Addr) := fun b h => nomatch h
    have env : Env0 P w K mg (hidT s₁.heap T) callerA [] s₁ T :=
      { frames := rfl
        mod := ⟨inB, dic nsM, ⟨mb, dic nsB, boot⟩, lim0⟩
        bs := fun b o e => of_hidT e
        bsz := Nat.le_of_eq (hidT_size _ _)
        funs := trivial
        frf := fun b h => absurd (show b ∈ ([] : List Addr) from h) (none0 b)
        hok := ok
        bare := .of_eq noG }
    have fn := F _ inB (dic nsM) sysB
    refine codeAny_mono (fn.go callerA [] s₁ T ⟨[.ref a], []⟩ [.ref a] [.ref a] _ _ rfl room env (bind s₁ (.ref a)) (.cons rfl .nil) (want T sq)) ?_
    intro r s' h
    match r, h with
    | .error e, h => exact False.elim h
    | .ok .next, h => exact False.elim h
    | .ok .brk, h => exact False.elim h
    | .ok .cont, h => exact False.elim h
    | .ok (.ret u), h =>
      obtain ⟨v, T', os, bare, un, ok', ru, hv⟩ := h
      have hv' : v = .bl true := hv
      subst hv'
      obtain rfl : u = Value.bool true := ru
      refine ⟨rfl, OldK.of_keep fun b o e => ?_, os, bare⟩
      cases q : T b with
      | none => exact un.keep b o e q (fun z => none0 b z) (by simp)
      | some u =>
        obtain ⟨_, _, ob, xs, rfl⟩ := only b u q
        have old := (ok b _ q).1
        rw [e] at old
        cases old
        exact (ok' b _ (un.frzs b _ _ q)).1
  cases hk : K.lookup a with
  | some o =>
    have e := KX a o hk
    rw [atA] at e
    cases e
    refine main (fun _ => none) (fun b u z => nomatch (show (none : Option HO) = some u from z)) ?_ fun b u z => nomatch (show (none : Option HO) = some u from z)
    exact .inr ⟨_, vs.toArray, _, hk, rfl, rfl, rfl, by rw [List.size_toArray, same]; exact few, by simpa using vals_ints hwn⟩
  | none =>
    let T : Hp := fun b => if b = a then some (.frz (obj1 vs) (.lst (ns.map V.int))) else none
    have at1 : ∀ b u, T b = some u → b = a ∧ u = .frz (obj1 vs) (.lst (ns.map V.int)) := by
      intro b u z
      have z' : (if b = a then some (HO.frz (obj1 vs) (.lst (ns.map V.int))) else none) = some u := z
      by_cases hb : b = a
      · rw [if_pos hb] at z'
        exact ⟨hb, (Option.some.inj z').symm⟩
      · rw [if_neg hb] at z'
        cases z'
    refine main T (fun b u z => ?_) (.inl (.inr ⟨obj1 vs, if_pos rfl⟩)) fun b u z => ?_
    · obtain ⟨h1, h2⟩ := at1 b u z
      exact ⟨h1, hk, _, _, h2⟩
    · obtain ⟨rfl, rfl⟩ := at1 b u z
      exact ⟨atA, by rw [List.length_map]; exact few, vs, _, vals_ints hwn, atA⟩
end
open PySem.W in
theorem walk_go {l : OpenLaw} {k : Nat} {q : Program} {loose : List Str} {XP : (Str → Option Value) → Heap → Prop} {YP : World → Heap → Prop} {d : DefRec} {K : Params → Frag} {sp : World → Sp} {x : Str}
    (noImp : importsNone q = true) (most : l.most = some 63) (noD : d.params.defaults = []) (room : Room k callerA)
    (inY : ∀ (w : World) (h : Heap), YP w h → (K w.params).In h)
    (F : ∀ (w : World) (mg : Str → Option Value) (fa : Addr) (h : Heap), (K w.params).In h →
      h.Ns mainGlobals mg → mg d.name = some (.ref fa) →
      ∃ fd : FuncData, (∀ (s : Shared) (u : Value), BindsTo s fd ⟨[u], []⟩ [(x, u)]) ∧
        ∀ base : Heap, (K w.params).In base → base.Ns mainGlobals mg → SysD base →
          FnG l.prog w (K w.params) mg base CX0 k fa fd [x] (sp w))
    (want : ∀ (w : World) (T : Hp) (a : Addr) (ns : List Int), ns.length ≤ 63 →
      SqL (K w.params) T a (ns.map V.int) → sp w [.ref a] T (fun v _ => v = .bl true) E0) :
    WalkO q loose XP YP l.row.toRowW d [] (fun f vs => PySem.call f vs) := by
  intro w t₀ t₁ mg mb G Y fa o pm cd
  intro doc dV kV ho hd hcd hD hm noG args
  intro vals as pre lay reads well lows
  have dV0 := Dflts.none hD noD
  have kV0 := Dflts.noKw hD
  subst dV0 kV0
  obtain ⟨a, vs, ns, rfl, rfl, atA, hwn, few⟩ := Att.script_of most pre well
  have low : a ≠ sysModules := by
    have mem : a ∈ as := by
      cases reads with
      | cons r1 r2 =>
        cases r1 with
        | list _ _ _ _ => exact List.mem_append_left _ List.mem_cons_self
    have := lows a mem
    rintro rfl
    exact absurd this (by decide)
  have sys : ∃ o, t₁.heap.get? sysModules = some o := by
    obtain ⟨mm, ⟨o', _, _, e, _⟩, _⟩ := (G.T.seer noImp).mods
    exact ⟨o', e⟩
  have inK := inY w _ Y
  obtain ⟨fd, bind, hF⟩ := F w mg fa _ inK G.T.g hm
  have run := law_go inK G.T.g G.T.b G.T.builtins G.T.nolimit noG atA hwn (Nat.le_trans few (by decide)) low sys room hF bind fun T sq => want w T a ns few sq
  refine enter_call (codeAny_mono run ?_)
  rintro r s' ⟨rfl, h2, h3, h4⟩
  refine ⟨.inl ⟨.bool true, .bool true, [], rfl, fun _ => rfl, .bool true, Att.post_true l _, fun _ => ?_⟩, h2, h3, h4⟩
  exact ⟨List.Pairwise.nil, fun _ hm => (nomatch hm)⟩

/-! the defs as the top has written them -/
structure Wr (K : PySem.W.Frag) (x : Str) (st : Stmt) (f : Addr) : Prop where
  at' : PySem.W.nsIn K mainGlobals x = some (some (.ref f))
  obj : ∃ (oc : Value) (od : Option Addr) (kV doc pm : Value) (an : Option Addr) (cd ct : Value) (osl : Array (Option Value)),
    K.lookup f = some ⟨oc, od, .func (PySem.W.fnOf x x (defArgs st) (defBody st) (defScope st) .none kV doc pm an cd ct), osl⟩ ∧
      PySem.W.codeIn K cd x = true
  kept : PySem.W.keepIn K (.ref f) = true
theorem wr_mk {K : PySem.W.Frag} {x : Str} {st : Stmt} {f : Addr} {oc : Value} {od an : Option Addr} {osl : Array (Option Value)} {kV doc pm cd ct : Value}
    (h1 : PySem.W.nsIn K mainGlobals x = some (some (.ref f)))
    (h2 : K.lookup f = some ⟨oc, od, .func (PySem.W.fnOf x x (defArgs st) (defBody st) (defScope st) .none kV doc pm an cd ct), osl⟩)
    (h3 : PySem.W.codeIn K cd x = true) (h4 : PySem.W.keepIn K (.ref f) = true) : ∃ f, Wr K x st f :=
  ⟨f, h1, ⟨_, _, _, _, _, _, _, _, _, h2, h3⟩, h4⟩
/-- how a def without defaults takes its arguments -/
def Takes (x : Str) (st : Stmt) (ps : List Str) : Prop :=
  ∀ (kV doc pm : Value) (an : Option Addr) (cd ct : Value) (us : List Value), us.length = ps.length →
    bindArgs (PySem.W.fnOf x x (defArgs st) (defBody st) (defScope st) .none kV doc pm an cd ct) ⟨us, []⟩ = pure (ps.zip us)
section
variable {K : PySem.W.Frag} {h : Heap} {mg : Str → Option Value} {x : Str} {st : Stmt} {f : Addr} {ps : List Str}
theorem Wr.df (R : Wr K x st f) (X : K.In h) (G : h.Ns mainGlobals mg) (T : Takes x st ps) :
    ∃ fd, Df K mg x st ps f fd ∧ ∃ kV doc pm an cd ct, fd = PySem.W.fnOf x x (defArgs st) (defBody st) (defScope st) .none kV doc pm an cd ct := by
  obtain ⟨oc, od, kV, doc, pm, an, cd, ct, osl, lk, hc⟩ := R.obj
  have F := fun_mk (st := st) lk hc R.kept
  exact ⟨_, ⟨F, PySem.W.mg_of X G R.at', F.binds (ps := ps) T⟩, kV, doc, pm, an, cd, ct, rfl⟩
end
end Fr

set_option Elab.async false
set_option linter.all false
set_option maxRecDepth 100000
set_option maxHeartbeats 1000000
set_option autoImplicit false
namespace Fr
open PySem PySem.Spec PyProof.Rows L2
namespace Q
theorem tk {x : Str} {st : Stmt} {ps : List Str} (h : ∀ (kV doc pm : Value) (an : Option Addr) (cd ct : Value) (us : List Value), us.length = ps.length →
    bindArgs (PySem.W.fnOf x x (defArgs st) (defBody st) (defScope st) .none kV doc pm an cd ct) ⟨us, []⟩ = pure (ps.zip us)) : Takes x st ps := h
section
variable {P : Program} {w : World} {K : PySem.W.Frag} {h : Heap} {mg : Str → Option Value} {fa : Addr}
theorem all_of (X : K.In h) (G : h.Ns mainGlobals mg) (hfa : mg "law" = some (.ref fa)) (B : Blt mg) (hany : mg "any" = none)
    (w1 : ∃ f, Wr K "is_integer" sInt f)
    (w2 : ∃ f, Wr K "is_integer_within" sWithin f)
    (w3 : ∃ f, Wr K "is_name" sName f)
    (w4 : ∃ f, Wr K "is_row" sRow f)
    (w5 : ∃ f, Wr K "is_ascending" sAsc f)
    (w6 : ∃ f, Wr K "are_names" sNames f)
    (w7 : ∃ f, Wr K "_is_counter" sCounter f)
    (w8 : ∃ f, Wr K "is_counters" sCounters f)
    (w9 : ∃ f, Wr K "check_counters" sCheckC f)
    (w10 : ∃ f, Wr K "_check_kinds" sCheckK f)
    (w11 : ∃ f, Wr K "_is_short" sShort f)
    (w12 : ∃ f, Wr K "shows_short" sShows f)
    (w13 : ∃ f, Wr K "suits" sSuits f)
    (w14 : ∃ f, Wr K "is_setting" sIsSet f)
    (w15 : ∃ f, Wr K "rows_over" sRows f)
    (w16 : ∃ f, Wr K "_settings_over" sOver f)
    (w17 : ∃ f, Wr K "_subsets" sSubs f)
    (w18 : ∃ f, Wr K "setting_for" sFor f)
    (w19 : ∃ f, Wr K "_law_pot" sPot f)
    (w20 : ∃ f, Wr K "_law_take" sTake f)
    (w21 : ∃ f, Wr K "_law_of" sOf f)
    (w22 : ∃ f, Wr K "_law_names" sNms f)
    (w23 : ∃ f, Wr K "_law_right" sRight f)
    (w24 : ∃ f, Wr K "law" sLaw f) :
    ∃ fd : FuncData, (∀ (s : Shared) (u : Value), BindsTo s fd ⟨[u], []⟩ [("_law_script", u)]) ∧
      ∀ base : Heap, K.In base → base.Ns mainGlobals mg → SysD base →
        FnG P w K mg base CX0 8 fa fd ["_law_script"] (spLaw K) := by
  obtain ⟨_, r⟩ := w1
  obtain ⟨_, D1, _, _, _, _, _, _, e1⟩ := r.df X G (ps := ["value"]) (tk fun _ _ _ _ _ _ us hl => match us, hl with | [_], _ => rfl)
  obtain ⟨_, r⟩ := w2
  obtain ⟨_, D2, _, _, _, _, _, _, e2⟩ := r.df X G (ps := ["value", "least", "most"]) (tk fun _ _ _ _ _ _ us hl => match us, hl with | [_, _, _], _ => rfl)
  obtain ⟨_, r⟩ := w3
  obtain ⟨_, D3, _, _, _, _, _, _, e3⟩ := r.df X G (ps := ["value"]) (tk fun _ _ _ _ _ _ us hl => match us, hl with | [_], _ => rfl)
  obtain ⟨_, r⟩ := w4
  obtain ⟨_, D4, _, _, _, _, _, _, e4⟩ := r.df X G (ps := ["value", "width"]) (tk fun _ _ _ _ _ _ us hl => match us, hl with | [_, _], _ => rfl)
  obtain ⟨_, r⟩ := w5
  obtain ⟨_, D5, _, _, _, _, _, _, e5⟩ := r.df X G (ps := ["items"]) (tk fun _ _ _ _ _ _ us hl => match us, hl with | [_], _ => rfl)
  obtain ⟨_, r⟩ := w6
  obtain ⟨_, D6, _, _, _, _, _, _, e6⟩ := r.df X G (ps := ["value"]) (tk fun _ _ _ _ _ _ us hl => match us, hl with | [_], _ => rfl)
  obtain ⟨_, r⟩ := w7
  obtain ⟨_, D7, _, _, _, _, _, _, e7⟩ := r.df X G (ps := ["value"]) (tk fun _ _ _ _ _ _ us hl => match us, hl with | [_], _ => rfl)
  obtain ⟨_, r⟩ := w8
  obtain ⟨_, D8, _, _, _, _, _, _, e8⟩ := r.df X G (ps := ["value"]) (tk fun _ _ _ _ _ _ us hl => match us, hl with | [_], _ => rfl)
  obtain ⟨_, r⟩ := w9
  obtain ⟨_, D9, _, _, _, _, _, _, e9⟩ := r.df X G (ps := ["counters"]) (tk fun _ _ _ _ _ _ us hl => match us, hl with | [_], _ => rfl)
  obtain ⟨_, r⟩ := w10
  obtain ⟨_, D10, _, _, _, _, _, _, e10⟩ := r.df X G (ps := ["kinds"]) (tk fun _ _ _ _ _ _ us hl => match us, hl with | [_], _ => rfl)
  obtain ⟨_, r⟩ := w11
  obtain ⟨_, D11, _, _, _, _, _, _, e11⟩ := r.df X G (ps := ["counters", "kinds"]) (tk fun _ _ _ _ _ _ us hl => match us, hl with | [_, _], _ => rfl)
  obtain ⟨_, r⟩ := w12
  obtain ⟨_, D12, _, _, _, _, _, _, e12⟩ := r.df X G (ps := ["counters", "kinds", "value"]) (tk fun _ _ _ _ _ _ us hl => match us, hl with | [_, _, _], _ => rfl)
  obtain ⟨_, r⟩ := w13
  obtain ⟨_, D13, _, _, _, _, _, _, e13⟩ := r.df X G (ps := ["counters", "value"]) (tk fun _ _ _ _ _ _ us hl => match us, hl with | [_, _], _ => rfl)
  obtain ⟨_, r⟩ := w14
  obtain ⟨_, D14, _, _, _, _, _, _, e14⟩ := r.df X G (ps := ["counters", "value"]) (tk fun _ _ _ _ _ _ us hl => match us, hl with | [_, _], _ => rfl)
  obtain ⟨_, r⟩ := w15
  obtain ⟨_, D15, _, _, _, _, _, _, e15⟩ := r.df X G (ps := ["choices"]) (tk fun _ _ _ _ _ _ us hl => match us, hl with | [_], _ => rfl)
  obtain ⟨_, r⟩ := w16
  obtain ⟨_, D16, _, _, _, _, _, _, e16⟩ := r.df X G (ps := ["counters", "kinds"]) (tk fun _ _ _ _ _ _ us hl => match us, hl with | [_, _], _ => rfl)
  obtain ⟨_, r⟩ := w17
  obtain ⟨_, D17, _, _, _, _, _, _, e17⟩ := r.df X G (ps := ["kinds"]) (tk fun _ _ _ _ _ _ us hl => match us, hl with | [_], _ => rfl)
  obtain ⟨_, r⟩ := w18
  obtain ⟨_, D18, _, _, _, _, _, _, e18⟩ := r.df X G (ps := ["counters", "kinds"]) (tk fun _ _ _ _ _ _ us hl => match us, hl with | [_, _], _ => rfl)
  obtain ⟨_, r⟩ := w19
  obtain ⟨_, D19, _, _, _, _, _, _, e19⟩ := r.df X G (ps := ["_law_script", "_law_k"]) (tk fun _ _ _ _ _ _ us hl => match us, hl with | [_, _], _ => rfl)
  obtain ⟨_, r⟩ := w20
  obtain ⟨_, D20, _, _, _, _, _, _, e20⟩ := r.df X G (ps := ["_law_pot_here", "_law_many"]) (tk fun _ _ _ _ _ _ us hl => match us, hl with | [_, _], _ => rfl)
  obtain ⟨_, r⟩ := w21
  obtain ⟨_, D21, _, _, _, _, _, _, e21⟩ := r.df X G (ps := ["_law_pot_here", "_law_some"]) (tk fun _ _ _ _ _ _ us hl => match us, hl with | [_, _], _ => rfl)
  obtain ⟨_, r⟩ := w22
  obtain ⟨_, D22, _, _, _, _, _, _, e22⟩ := r.df X G (ps := ["_law_pot_here"]) (tk fun _ _ _ _ _ _ us hl => match us, hl with | [_], _ => rfl)
  obtain ⟨_, r⟩ := w23
  obtain ⟨_, D23, _, _, _, _, _, _, e23⟩ := r.df X G (ps := ["_law_pot_here"]) (tk fun _ _ _ _ _ _ us hl => match us, hl with | [_], _ => rfl)
  obtain ⟨fz, r⟩ := w24
  obtain ⟨fd, D24, _, _, _, _, _, _, ez⟩ := r.df X G (ps := ["_law_script"]) (tk fun _ _ _ _ _ _ us hl => match us, hl with | [_], _ => rfl)
  have ef : fz = fa := by
    have e := D24.g.symm.trans hfa
    injection e with e
    injection e
  subst ef
  refine ⟨fd, fun s u => by rw [ez]; exact .of_eq rfl, fun base _ _ hsys => ?_⟩
  have kNames := ok_names (P := P) (w := w) (base := base) D6 B D3 D5
  have kWithin := ok_within (P := P) (w := w) (base := base) D2 B D1
  have kCounter := ok_counter (P := P) (w := w) (base := base) D7 B D4 D6 D2 kNames kWithin
  have kCounters := ok_counters (P := P) (w := w) (base := base) D8 B D7 kCounter
  have kCheckC := ok_checkC (P := P) (w := w) (base := base) D9 D8 kCounters
  have kCheckK := ok_checkK (P := P) (w := w) (base := base) D10 D6 kNames
  have kShort := ok_short (P := P) (w := w) (base := base) D11 B hany
  have kShows := ok_shows (P := P) (w := w) (base := base) D12 B D9 D10 D6 D11 kCheckC kCheckK kNames kShort
  have kSuits := ok_suits (P := P) (w := w) (base := base) D13 B D4
  have kIsSet := ok_isset (P := P) (w := w) (base := base) D14 D9 D13 kCheckC kSuits
  have kFor := ok_for (P := P) (w := w) (base := base) D18 B D9 D10 D15 D16 D17 D11 kCheckC kCheckK kShort
  have kRight := ok_right (P := P) (w := w) (base := base) D23 B D20 D21 D22 D18 D12 D14 kFor kShows kIsSet
  exact ok_law D24 B D19 D23 kRight
end
end Q
end Fr

set_option Elab.async false
set_option linter.all false
set_option maxRecDepth 100000
set_option maxHeartbeats 1000000
set_option autoImplicit false
open PySem PySem.W PyProof.Rows
set_option maxHeartbeats 0 in
theorem PySem.Challenge.cw_fitruns_k12_settings_known_by_hand_holds : PySem.Challenge.rw_fitruns_k12_settings_known_by_hand.Holds := by
  w_on
  o_law
  k_head
  (case hw => w_witness2)
  k_fill
  refine Fr.walk_go (k := 8) (x := "_law_script")
    (l := PySem.Challenge.rw_fitruns_k12_settings_known_by_hand)
    (sp := fun w => Fr.Q.spLaw _) ?imp rfl rfl ⟨rfl, by decide, by decide⟩
    (fun w h Y => PySem.W.kIn_of Y) ?F
    (fun _ T a ns few sq => ⟨a, ns, rfl, sq, few, fun _ => rfl⟩)
  case imp => decide +kernel
  case F =>
    intro w mg fa h KX G hmg
    refine' Fr.Q.all_of KX G hmg ?B ?y1 ?w1 ?w2 ?w3 ?w4 ?w5 ?w6 ?w7 ?w8 ?w9 ?w10 ?w11 ?w12 ?w13 ?w14 ?w15 ?w16 ?w17 ?w18 ?w19 ?w20 ?w21 ?w22 ?w23 ?w24
    case B =>
      refine' ⟨PySem.W.mg_none_of KX G ?zz1, PySem.W.mg_none_of KX G ?zz2, PySem.W.mg_none_of KX G ?zz3, PySem.W.mg_none_of KX G ?zz4, PySem.W.mg_none_of KX G ?zz5, PySem.W.mg_none_of KX G ?zz6, PySem.W.mg_none_of KX G ?zz7, PySem.W.mg_none_of KX G ?zz8, PySem.W.mg_none_of KX G ?zz9, PySem.W.mg_none_of KX G ?zz10, PySem.W.mg_none_of KX G ?zz11, PySem.W.mg_none_of KX G ?zz12, PySem.W.mg_none_of KX G ?zz13, PySem.W.mg_none_of KX G ?zz14, PySem.W.mg_none_of KX G ?zz15, PySem.W.mg_none_of KX G ?zz16, PySem.W.mg_none_of KX G ?zz17⟩ <;> k_is
    case y1 => exact PySem.W.mg_none_of KX G (by k_is)
    all_goals (
      refine' Fr.wr_mk ?h1 ?h2 ?h3 ?h4
      case h1 => k_is
      case h2 => k_is
      case h3 => k_is
      case h4 => k_is)

