import PyProof.Rows.All
import Wide.All
import OpenK.AllK
import Wide.FinOn
import HandS.ForMost
import HandS.IsInst
import HandS.Wide
import HandS.Style
import HandS.Walk
import HandS.Zip
import HandS.Flow
import HandS.ForExc
import HandS.ExcInit
import HandS.Property
import HandS.TupSets
import HandS.Ends
import HandS.OwnEq
import HandS.MakeKw
import HandS.MakeKwOnly
import PySem.Challenge.RW_orderlycore_k41_whole_controls_trapped_a
set_option Elab.async false
set_option linter.all false
set_option maxRecDepth 100000
set_option maxHeartbeats 4000000
namespace Hx
open PySem PySem.Spec PyProof.Rows L2
/-! ### own rules -/
section
variable {X : Cx} {CX : CXT} {k : Nat} {f : Addr} {fd : FuncData} {ps ks : List Str} {sp : Sp} {E : XK} {x : Str} {p pos : Pos} {kws : List Keyword} {tk : TA} {g : List Value → List Value → List Value} {gV : List V → List V → List V}
theorem pe_callKA (F : FnOk X.prog X.w X.K X.mg X.base CX k f fd ps sp) (hr : Room k X.A) (hg : Gl X x) (hm : X.mg x = some (.ref f)) (hk : PySem.W.keepIn X.K (.ref f) = true) (hb : KBinds X.K fd ps ks g gV) (hx : Passes CX X E)
    (hkw : PK X kws tk) (hall : (backToKw pos (keywordEach kws X.env)).all (·.1.isSome) = true := by rfl) (hks : (backToKw pos (keywordEach kws X.env)).filterMap (·.1) = ks := by rfl)
    (hdb : (x == ("__debug__" : Str)) = false := by decide)
    (hpl : ((backTo pos (starEach [] X.env)).any (·.1) || (backToKw pos (keywordEach kws X.env)).any (·.1.isNone)) = false := by rfl) :
    PE X (.Call (.Name x p) [] kws pos) (tCallK sp gV E tNil tk) := by
  refine ⟨fun pins s σ H Q I h => ?_⟩
  refine wpAny_Call_Name_kw (ld_glob I hg hm ?_ hdb)
  refine PySem.W.callWith_KW0 (h₀ := X.base) I.ok.mod.kin hk hall ?_ hpl
  refine thn (hkw.run pos pins s σ H _ I h) fun ws s2 ⟨zs, H2, I2, rz, q2⟩ => ⟨I2.kIn, ?_⟩
  rw [hks]
  exact run_fnk F hr hb hx I2 .nil rz q2
/-- all by keywords, in the parameters' own order -/
def kwG {α : Type} (us ws : List α) : List α := match us with | [] => ws | _ => []
theorem kw_binds {K : PySem.W.Frag} {x qual : Str} {st : Stmt} {f : Addr} {fd : FuncData} {ps : List Str} (F : Fun K x qual st f fd) (h0 : 0 < ps.length)
    (h : ∀ (kV doc pm : Value) (an : Option Addr) (cdv ct : Value) (us : List Value), us.length = ps.length → bindArgs (PySem.W.fnOf x qual (defArgs st) (defBody st) (defScope st) .none kV doc pm an cdv ct) ⟨[], ps.zip us⟩ = pure (ps.zip us)) : KBinds K fd ps ps kwG kwG := by
  obtain ⟨oc, od, kV, doc, pm, an, cdv, ct, osl, rfl, lk, hcd⟩ := F.ex
  refine ⟨fun s us ws _ hl => ?_, fun {vs us zs ws} r1 r2 => ?_⟩
  · cases us with
    | nil => exact .of_eq (h kV doc pm an cdv ct ws hl)
    | cons a t => exact absurd hl (by simp [kwG]; omega)
  · cases r1 with
    | nil => exact r2
    | cons a t => exact .nil
theorem pg_pair {i j : Nat} {x y : Str} {p1 p2 : Pos} {kk : Nat} (hc : X.calm = true) (hN : X.N.Nodup) (hi : X.N[i]? = some x) (hj : X.N[j]? = some y) (hx : Loc X.env.scope x) (hy : Loc X.env.scope y)
    (hf : X.fn x = true ∨ X.env.scope.names.lookup x = some .local := by first | exact .inl rfl | exact .inr rfl | assumption) (hf2 : X.fn y = true ∨ X.env.scope.names.lookup y = some .local := by first | exact .inl rfl | exact .inr rfl | assumption)
    (hn : (assignEach [Expr.Name x p1, .Name y p2] X.env).length = 2 := by rfl) (hst : (assignEach [Expr.Name x p1, .Name y p2] X.env).findIdx? (·.1) = none := by rfl)
    (hs : (assignEach [Expr.Name x p1, .Name y p2] X.env).map (·.2) = assign (.Name x p1) X.env :: (assignEach [Expr.Name y p2] X.env).map (·.2) := by rfl)
    (hs2 : (assignEach [Expr.Name y p2] X.env).map (·.2) = assign (.Name y p2) X.env :: (assignEach [] X.env).map (·.2) := by rfl) :
    PG X (.Tuple [.Name x p1, .Name y p2] kk pos) (gTup X.K 2 (gCons (gName i) (gCons (gName j) gNil))) :=
  pg_tup hc (pgs_cons (pg_name hN hi hx hf) (pgs_cons (pg_name hN hj hy hf2) pgs_nil hs2) hs) hn hst
theorem pe_gint {i : Int} (hg : Gl X x) (hm : ∃ t, X.mg x = some (.int i t)) (hd : (x == ("__debug__" : Str)) = false := by decide) : PE X (.Name x pos) (tC (.int i)) := by
  obtain ⟨t, hm⟩ := hm
  exact pe_glob hg hm ⟨_, rfl⟩ hd
end
theorem call_int1i {X : Cx} : CallR X (.type "int") (fun xs H Q => ∃ i, xs = [.int i] ∧ Q (.int i) H) := fun pins s σ H xs us Q I r h => call_int1 pins s σ H xs us Q I r (.inl h)
theorem call_int1b {X : Cx} : CallR X (.type "int") (fun xs H Q => ∃ k, xs = [.bl k] ∧ Q (.int (if k then 1 else 0)) H) := fun pins s σ H xs us Q I r h => call_int1 pins s σ H xs us Q I r (.inr h)
theorem call_len_list {X : Cx} : CallR X (.builtin "len") (fun xs H Q => ∃ p ys, xs = [.ref p] ∧ SqL X.K H p ys ∧ Q (.int ys.length) H) := fun pins s σ H xs us Q I r ⟨p, ys, e, h, q⟩ => call_len_seq pins s σ H xs us Q I r ⟨p, ys, e, .inl h, q⟩
/-- a goal at which the walker of readings stops -/
structure Stop (p : Prop) : Prop where
  h : p
theorem stop_eq {p : Prop} : Stop p = p := propext ⟨fun q => q.h, fun q => ⟨q⟩⟩
def tForS (wi : TI) (g : TG) (tb : TS) : TS := fun D σ H => wi σ H fun J H1 => Stop (∃ W : Nat → Nat → L2.St → Hp → Prop, (∃ m, W 0 m σ H1) ∧ ∀ i m σ H, W i m σ H →
  (J.stop i H ∧ D.nx σ H) ∨ (J.go i H ∧ ∃ N : L2.St → Hp → Prop, (∀ σ' H', N σ' H' → ∃ m', m' < m ∧ W (i + 1) m' σ' H') ∧ ∀ x H', J.yld i H x H' → g x σ H' fun σ2 H2 => tb { D with nx := N, ct := N, bk := D.nx } σ2 H2))
theorem tForS_eq (wi : TI) (g : TG) (tb : TS) : tForS wi g tb = tFor wi g tb := by
  funext D σ H
  unfold tForS tFor
  simp only [stop_eq]
theorem ps_forS {X : Cx} {tg iter : Expr} {body : List Stmt} {wi : TI} {g : TG} {tb : TS} {pos : Pos} (hp : PassesOwn (model X.prog X.w) X.A X.env X.xe) (hc : X.calm = true) (hi : PI X tg iter wi) (hg : PG X tg g) (hb : PSs X body tb)
    (hs : ∀ x, foldedSetIterable iter X.env x = pure x := by intro _; rfl) : PS X (.For tg iter body [] pos) (tForS wi g tb) := by
  rw [tForS_eq]
  exact ps_for hp hc hi hg hb hs
/-! ### heaps -/
theorem same_upd {H : Hp} {p : Addr} {o : HO} (h : H p = none) : Same H (upd H p o) := fun b u e => by rw [upd_ne (ne_of_none e h)]; exact e
theorem Same.upd {H H1 : Hp} {p : Addr} {o : HO} (s : Same H H1) (h : H1 p = none) : Same H (L2.upd H1 p o) := L2.Same.trans s (same_upd h)
theorem Same.free' {H H1 : Hp} (s : Same H H1) {p : Addr} (h : H1 p = none) : H p = none := L2.Same.free s h
/-- all but a is as it was -/
def But (a : Addr) (H H' : Hp) : Prop := ∀ b o, b ≠ a → H b = some o → H' b = some o
theorem But.refl {a : Addr} (H : Hp) : But a H H := fun _ _ _ h => h
theorem But.trans {a : Addr} {H H1 H2 : Hp} (x : But a H H1) (y : But a H1 H2) : But a H H2 := fun b o n h => y b o n (x b o n h)
theorem But.same {a : Addr} {H H1 : Hp} (x : Same H H1) : But a H H1 := fun b o _ h => x b o h
theorem But.set {a : Addr} {H : Hp} {o : HO} : But a H (upd H a o) := fun b u n h => by rw [upd_ne n]; exact h
theorem But.new {a : Addr} {H H1 : Hp} {p : Addr} {o : HO} (x : But a H H1) (h : H1 p = none) : But a H (upd H1 p o) := x.trans (But.same (same_upd h))
theorem size_le {n : Nat} (h : n ≤ 10000) : n ≤ sizeLine := by rw [sizeLine_eq]; omega
theorem size_lt {n : Nat} (h : n ≤ 10000) : n < sizeLine := by rw [sizeLine_eq]; omega
theorem iteD {c A B : Prop} [Decidable c] (h1 : c → A) (h2 : ¬ c → B) : if decide c = true then A else B := by
  by_cases h : c
  · rw [decide_eq_true h]; exact iteT (h1 h)
  · rw [decide_eq_false h]; exact iteF (h2 h)
theorem iteN {c A B : Prop} [Decidable c] (h1 : ¬ c → A) (h2 : c → B) : if (!decide c) = true then A else B := by
  by_cases h : c
  · rw [decide_eq_true h]; exact iteF (h2 h)
  · rw [decide_eq_false h]; exact iteT (h1 h)
theorem qbl {Q : VK} {b c : Bool} {H : Hp} (k : Q (.bl b) H) (e : c = b) : Q (.bl c) H := e ▸ k
theorem qint {Q : VK} {i j : Int} {H : Hp} (k : Q (.int i) H) (e : j = i) : Q (.int j) H := e ▸ k
theorem same_set {H H1 : Hp} {p : Addr} {o : HO} (s : Same H H1) (n : H p = none) : Same H (upd H1 p o) := fun b u e => by rw [upd_ne (ne_of_none e n)]; exact s b u e
theorem old_upd {H : Hp} {p a : Addr} {o u : HO} (n : H p = none) (h : H a = some u) : upd H p o a = some u := same_upd n _ _ h
theorem SqL.new {K : PySem.W.Frag} {H : Hp} {p a : Addr} {o : HO} {xs : List V} (n : H p = none) (h : SqL K H a xs) : SqL K (upd H p o) a xs := L2.Same.seq (same_upd n) h
theorem tyl_new {K : PySem.W.Frag} {H : Hp} {p a : Addr} {o : HO} {xs : List V} (h : H a = some (.lst xs)) (n : H p = none) : tyV K "list" (.ref a) (upd H p o) := Or.inl ⟨rfl, xs, SqL.of (old_upd n h)⟩
theorem tyl_of {K : PySem.W.Frag} {H : Hp} {a : Addr} {xs : List V} (h : H a = some (.lst xs)) : tyV K "list" (.ref a) H := Or.inl ⟨rfl, xs, SqL.of h⟩
theorem same_at {H H' : Hp} {a : Addr} {u : HO} (s : Same H H') (h : H a = some u) : H' a = some u := s _ _ h
theorem same_trans' {H H1 H2 : Hp} (b : Same H1 H2) (a : Same H H1) : Same H H2 := L2.Same.trans a b
/-! ### comprehensions that keep what stood -/
theorem lc_mapS {K : PySem.W.Frag} {a : Addr} {xs : List V} {g : TG} {te : TE} {vs : List Nat} {σ : L2.St} {H1 : Hp} {D : Addr} {Qd : Hp → Prop} (ys : List V) (ha : SqL K H1 a xs) (hD : H1 D = none) (hl : xs.length = ys.length) (hz : xs.length ≤ 10000)
    (hs : ∀ (i : Nat) (x y : V) (H' : Hp) (Q : VK), xs[i]? = some x → ys[i]? = some y → Same H1 H' → (∀ H'', Same H' H'' → Q y H'') → g x (wipe σ vs) H' fun σ2 H2 => wipe σ2 vs = wipe σ vs ∧ te σ2 H2 Q)
    (hd : ∀ H', Same H1 H' → H' D = some (.lst ys) → Qd H') :
    ∃ W : Nat → Nat → Hp → Prop, (∃ m, W 0 m (upd H1 D (.lst []))) ∧ ∀ i m H, W i m H →
      ((Itl K a).stop i H ∧ Qd H) ∨ ((Itl K a).go i H ∧ ∃ Nx : Hp → Prop, (∀ H', Nx H' → ∃ m', m' < m ∧ W (i + 1) m' H') ∧ ∀ x H', (Itl K a).yld i H x H' → g x (wipe σ vs) H' fun σ2 H2 => wipe σ2 vs = wipe σ vs ∧ tYes σ2 H2 fun b H3 =>
        if b = true then te σ2 H3 fun y H4 => ∃ acc, H4 D = some (.lst acc) ∧ acc.length < sizeLine ∧ Nx (upd H4 D (.lst (acc ++ [y]))) else Nx H3) := by
  refine lc_list (xs := xs) (fun i H => Same H1 H ∧ H D = some (.lst (ys.take i))) ⟨same_upd hD, upd_same⟩ (fun i H _ h => L2.Same.seq h.1 ha) (fun i x H hx h => ?_) (fun H h => hd H h.1 (by rw [h.2, List.take_of_length_le (by omega)]))
  have hi : i < ys.length := by have := (List.getElem?_eq_some_iff.mp hx).1; omega
  refine hs i x ys[i] H _ hx (List.getElem?_eq_getElem hi) h.1 (fun H'' s => ?_)
  refine ⟨ys.take i, s _ _ h.2, size_lt (by simp; omega), same_set (L2.Same.trans h.1 s) hD, ?_⟩
  rw [upd_same, List.take_add_one, List.getElem?_eq_getElem hi]; rfl
theorem lc_mapZ {K : PySem.W.Frag} {a b : Addr} {xs zs : List V} {g : TG} {te : TE} {vs : List Nat} {σ : L2.St} {H1 : Hp} {D : Addr} {Qd : Hp → Prop} (ys : List V) (ha : SqL K H1 a xs) (hb : SqL K H1 b zs) (hD : H1 D = none) (hl : xs.length = ys.length) (hl2 : xs.length = zs.length) (hz : xs.length ≤ 10000)
    (hs : ∀ (i : Nat) (x z y : V) (T : Addr) (H' : Hp) (Q : VK), xs[i]? = some x → zs[i]? = some z → ys[i]? = some y → Same H1 H' → H' T = none → (∀ H'', Same (upd H' T (.tup [x, z])) H'' → Q y H'') → g (.ref T) (wipe σ vs) (upd H' T (.tup [x, z])) fun σ2 H2 => wipe σ2 vs = wipe σ vs ∧ te σ2 H2 Q)
    (hd : ∀ H', Same H1 H' → H' D = some (.lst ys) → Qd H') :
    ∃ W : Nat → Nat → Hp → Prop, (∃ m, W 0 m (upd H1 D (.lst []))) ∧ ∀ i m H, W i m H →
      ((Itz K a b).stop i H ∧ Qd H) ∨ ((Itz K a b).go i H ∧ ∃ Nx : Hp → Prop, (∀ H', Nx H' → ∃ m', m' < m ∧ W (i + 1) m' H') ∧ ∀ x H', (Itz K a b).yld i H x H' → g x (wipe σ vs) H' fun σ2 H2 => wipe σ2 vs = wipe σ vs ∧ tYes σ2 H2 fun b H3 =>
        if b = true then te σ2 H3 fun y H4 => ∃ acc, H4 D = some (.lst acc) ∧ acc.length < sizeLine ∧ Nx (upd H4 D (.lst (acc ++ [y]))) else Nx H3) := by
  refine lc_it (walk_zip (xs := xs) (ys := zs) (n := xs.length) (by omega)) (fun i H => Same H1 H ∧ H D = some (.lst (ys.take i))) ⟨same_upd hD, upd_same⟩ (fun i H _ h => ⟨L2.Same.seq h.1 ha, L2.Same.seq h.1 hb⟩) (fun i x H H' hi h y => ?_) (fun H h => hd H h.1 (by rw [h.2, List.take_of_length_le (by omega)]))
  obtain ⟨T, x', z', rfl, hT, rfl, hx, hz'⟩ := y
  have hi' : i < ys.length := by omega
  refine hs i x' z' ys[i] T H _ hx hz' (List.getElem?_eq_getElem hi') h.1 hT (fun H'' s => ?_)
  refine ⟨ys.take i, s _ _ (old_upd hT h.2), size_lt (by simp; omega), same_set (L2.Same.trans (Same.upd h.1 hT) s) hD, ?_⟩
  rw [upd_same, List.take_add_one, List.getElem?_eq_getElem hi']; rfl
/-! ### two lists of the same ints -/
theorem dp_ints {K : PySem.W.Frag} {H : Hp} : ∀ ns : List Int, DpAll K H (ns.map V.int) (ns.map PyData.int)
  | [] => .nil
  | n :: r => .cons (.int n) (dp_ints r)
theorem sh_ints (ns : List Int) : SeqAt.shaped (.list (ns.map PyData.int)) = true := PySem.W.shaped_ints ns
theorem eqv_ints (ns : List Int) : PyData.eqv (.list (ns.map PyData.int)) (.list (ns.map PyData.int)) = true := SeqAt.eqv_refl _ (SeqAt.canLay_of_shaped (sh_ints ns))
theorem op_eqLI {X : Cx} (hu : X.A.units + 64 < cLine) : OpR X (compareOp .Eq) (fun x y H Q => ∃ (p q : Addr) (ns : List Int), x = .ref p ∧ y = .ref q ∧ SqL X.K H p (ns.map V.int) ∧ SqL X.K H q (ns.map V.int) ∧ Q (.bl true) H) := by
  intro pins s σ H x y v u Q I rx ry ⟨p, q, ns, e1, e2, h1, h2, k⟩
  refine op_eqD hu pins s σ H x y v u Q I rx ry ⟨.list (ns.map PyData.int), .list (ns.map PyData.int), ?_, ?_, ?_, ?_, ?_⟩
  · rw [e1]; exact .lst h1 (dp_ints ns)
  · rw [e2]; exact .lst h2 (dp_ints ns)
  · exact sh_ints ns
  · exact sh_ints ns
  · rw [eqv_ints]; exact k
theorem op_neLI {X : Cx} (hu : X.A.units + 64 < cLine) : OpR X (compareOp .NotEq) (fun x y H Q => ∃ (p q : Addr) (ns : List Int), x = .ref p ∧ y = .ref q ∧ SqL X.K H p (ns.map V.int) ∧ SqL X.K H q (ns.map V.int) ∧ Q (.bl false) H) := by
  intro pins s σ H x y v u Q I rx ry ⟨p, q, ns, e1, e2, h1, h2, k⟩
  refine op_neD hu pins s σ H x y v u Q I rx ry ⟨.list (ns.map PyData.int), .list (ns.map PyData.int), ?_, ?_, ?_, ?_, ?_⟩
  · rw [e1]; exact .lst h1 (dp_ints ns)
  · rw [e2]; exact .lst h2 (dp_ints ns)
  · exact sh_ints ns
  · exact sh_ints ns
  · rw [eqv_ints]; exact k
/-! ### the pot -/
structure Pot (H : Hp) (a : Addr) : Prop where
  ex : ∃ x y : Int, H a = some (.lst [.int x, .int y]) ∧ 0 ≤ x ∧ 0 ≤ y ∧ y < 4294967296
theorem Pot.same {H H' : Hp} {a : Addr} (s : Same H H') (h : Pot H a) : Pot H' a := by
  obtain ⟨x, y, e, r⟩ := h
  exact ⟨x, y, s _ _ e, r⟩
theorem Pot.new {H : Hp} {a p : Addr} {o : HO} (h : Pot H a) (n : H p = none) : Pot (upd H p o) a := h.same (same_upd n)
theorem Pot.ne {H : Hp} {a p : Addr} (h : Pot H a) (n : H p = none) : p ≠ a := by
  obtain ⟨x, y, e, r⟩ := h
  exact fun z => by rw [z, e] at n; cases n
theorem mulw {i j : Int} {a b : Nat} (ha : i.natAbs < 2 ^ a) (hb : j.natAbs < 2 ^ b) (h0 : 0 < a := by decide) (h1 : 0 < b := by decide) (h : a + b ≤ 1000000 := by decide) : CMulW i j := wide_mul ha hb h0 h1 h
theorem mulw64 {i j : Int} (ha : i.natAbs < 18446744073709551616) (hb : j.natAbs < 18446744073709551616) : CMulW i j := wide_mul (a := 64) (b := 64) ha hb (by decide) (by decide) (by decide)
theorem pick_at {xs : List V} {d : Int} (h0 : 0 ≤ d) (h1 : d < xs.length) : ∃ v, atI xs d = some v ∧ v ∈ xs := by
  have hd : d.toNat < xs.length := by omega
  exact ⟨xs[d.toNat], at_of (j := d.toNat) (by omega) (List.getElem?_eq_getElem hd), List.getElem_mem hd⟩
theorem take_fold {α β : Type} {f : β → α → β} {z : β} {l : List α} {i : Nat} {x : α} (h : l[i]? = some x) : (l.take (i + 1)).foldl f z = f ((l.take i).foldl f z) x := by
  rw [List.take_add_one, h, Option.toList_some, List.foldl_append]; rfl
theorem int_get {ns : List Int} {i : Nat} {x : V} (h : (ns.map V.int)[i]? = some x) : ∃ z, x = .int z ∧ ns[i]? = some z := by
  rw [List.getElem?_map] at h
  obtain ⟨z, hz, e⟩ := Option.map_eq_some_iff.mp h
  exact ⟨z, e.symm, hz⟩
/-- called with the pot and how many: a number below that, and the pot is still one -/
def spDraw : Sp := fun vs H Q _ => ∃ (a : Addr) (n : Int), vs = [.ref a, .int n] ∧ Pot H a ∧ 0 < n ∧ n < 1073741824 ∧
  ∀ (d : Int) (H' : Hp), 0 ≤ d → d < n → Pot H' a → But a H H' → Q (.int d) H'
end Hx

set_option Elab.async false
set_option linter.all false
set_option maxRecDepth 100000
set_option maxHeartbeats 4000000
namespace Hx
open PySem PySem.Spec PyProof.Rows L2
/-! ### own rules for objects and errors -/
def kwM {α : Type} (us ws : List α) : List α := match us with | [x] => x :: ws | _ => []
theorem kw_bindsM {K : PySem.W.Frag} {x qual : Str} {st : Stmt} {f : Addr} {fd : FuncData} {ps : List Str} (F : Fun K x qual st f fd) (h0 : 0 < ps.length)
    (h : ∀ (kV doc pm : Value) (an : Option Addr) (cdv ct : Value) (u : Value) (us : List Value), us.length = ps.tail.length → bindArgs (PySem.W.fnOf x qual (defArgs st) (defBody st) (defScope st) .none kV doc pm an cdv ct) ⟨[u], ps.tail.zip us⟩ = pure (ps.zip (u :: us))) : KBinds K fd ps ps.tail kwM kwM := by
  obtain ⟨oc, od, kV, doc, pm, an, cdv, ct, osl, rfl, lk, hcd⟩ := F.ex
  refine ⟨fun s us ws _ hl => ?_, fun {vs us zs ws} r1 r2 => ?_⟩
  · match us, hl with
    | [], hl => exact absurd hl (by simp [kwM]; omega)
    | [u], hl => exact .of_eq (h kV doc pm an cdv ct u ws (by simp [kwM] at hl ⊢; omega))
    | _ :: _ :: _, hl => exact absurd hl (by simp [kwM]; omega)
  · cases r1 with
    | nil => exact .nil
    | cons a t =>
      cases t with
      | nil => exact .cons a r2
      | cons b t => exact .nil
section
variable {X : Cx} {CX : CXT} {k : Nat} {f C : Addr} {fd : FuncData} {ps ks : List Str} {sp : Sp} {E : L2.St → XK} {E1 : XK} {x m : Str} {p pos apos : Pos} {e o : Expr} {es : List Expr} {ta : TE} {t tk : TA} {kws : List Keyword} {g : List Value → List Value → List Value} {gV : List V → List V → List V}
def tMethA (C : Addr) (m : Str) (sp : Sp) (E : L2.St → XK) (ta : TE) (t : TA) : TE := fun σ H Q => ta σ H fun x H1 => ∃ a dx fs, x = .ref a ∧ H1 a = some (.ins C dx fs) ∧ fs.lookup m = none ∧ t σ H1 fun vs H2 => sp (x :: vs) H2 Q (E σ)
/-- o.m(e, ..) that may raise, within a try -/
theorem pe_methA {E : L2.St → XK} {pl : Sem Bool} (he : PE X o ta) (c : Cls X.K C) (hm : Meth X.K C m f) (F : FnOk X.prog X.w X.K X.mg X.base CX k f fd ps sp) (hr : Room k X.A) (hb : Binds X.K fd ps []) (hx : ∀ σ, PassesAt CX X σ (E σ)) (ha : PA X (e :: es) t)
    (hst : starEach (e :: es) X.env = (false, eval e X.env) :: starEach es X.env := by rfl) (hpl : (backTo pos (starEach es X.env)).any (·.1) = false := by rfl)
    (ht : eval (.Call (.Attribute o m apos) (e :: es) [] pos) X.env = (do
      let ov ← eval o X.env
      standAt apos.atName
      let (f, first) ← holding [ov] (getMethod ov m pl)
      callWith pos f first (backTo pos (starEach (e :: es) X.env)) (backToKw pos (keywordEach [] X.env))) := by rfl) :
    PE X (.Call (.Attribute o m apos) (e :: es) [] pos) (tMethA C m sp E ta t) := by
  refine ⟨fun pins s σ H Q I h => ?_⟩
  refine PySem.W.methodCall_KW (pl := pl) (thn (he.run pins s σ H _ I h) fun u s1 ⟨x, H1, I1, rx, a, dx, fs, ex, ea, l, q⟩ => ?_) ht
  subst ex
  obtain rfl : u = Value.ref a := rx
  refine getmeth_ok I1 ea c hm l ?_
  refine PySem.W.callWith_K (first := [.ref a]) (h₀ := X.base) I.ok.mod.kin hm.kp (thn (ha.run pos pins s1 σ H1 _ I1 q) fun us s2 ⟨vs, H2, I2, r, q2⟩ => ⟨I2.kIn, ?_⟩) hst hpl
  exact run_fnS (us := .ref a :: us) (vs := .ref a :: vs) F hr hb (hx σ) I2 (.cons rfl r) q2
def tMethK (C : Addr) (m : Str) (sp : Sp) (gV : List V → List V → List V) (E : XK) (ta : TE) (tk : TA) : TE := fun σ H Q => ta σ H fun x H1 => ∃ a dx fs, x = .ref a ∧ H1 a = some (.ins C dx fs) ∧ fs.lookup m = none ∧ tk σ H1 fun zs H2 => sp (gV [x] zs) H2 Q E
/-- o.m(k=e, ..) -/
theorem pe_methKA {pl : Sem Bool} (he : PE X o ta) (c : Cls X.K C) (hm : Meth X.K C m f) (F : FnOk X.prog X.w X.K X.mg X.base CX k f fd ps sp) (hr : Room k X.A) (hb : KBinds X.K fd ps ks g gV) (hx : Passes CX X E1)
    (hkw : PK X kws tk) (hall : (backToKw pos (keywordEach kws X.env)).all (·.1.isSome) = true := by rfl) (hks : (backToKw pos (keywordEach kws X.env)).filterMap (·.1) = ks := by rfl)
    (hpl : ((backTo pos (starEach [] X.env)).any (·.1) || (backToKw pos (keywordEach kws X.env)).any (·.1.isNone)) = false := by rfl)
    (ht : eval (.Call (.Attribute o m apos) [] kws pos) X.env = (do
      let ov ← eval o X.env
      standAt apos.atName
      let (f, first) ← holding [ov] (getMethod ov m pl)
      callWith pos f first (backTo pos (starEach [] X.env)) (backToKw pos (keywordEach kws X.env))) := by rfl) :
    PE X (.Call (.Attribute o m apos) [] kws pos) (tMethK C m sp gV E1 ta tk) := by
  refine ⟨fun pins s σ H Q I h => ?_⟩
  refine PySem.W.methodCall_KW (pl := pl) (thn (he.run pins s σ H _ I h) fun u s1 ⟨x, H1, I1, rx, a, dx, fs, ex, ea, l, q⟩ => ?_) ht
  subst ex
  obtain rfl : u = Value.ref a := rx
  refine getmeth_ok I1 ea c hm l ?_
  refine PySem.W.callWith_KW0 (first := [.ref a]) (h₀ := X.base) I.ok.mod.kin hm.kp hall ?_ hpl
  refine thn (hkw.run pos pins s1 σ H1 _ I1 q) fun ws s2 ⟨zs, H2, I2, rz, q2⟩ => ⟨I2.kIn, ?_⟩
  rw [hks]
  exact run_fnk (us := [.ref a]) (vs := [.ref a]) F hr hb hx I2 (.cons rfl .nil) rz q2
theorem PI.or {tg iter : Expr} {w1 w2 : TI} (h1 : PI X tg iter w1) (h2 : PI X tg iter w2) : PI X tg iter (fun σ H R => w1 σ H R ∨ w2 σ H R) := ⟨fun pins s σ H R I h => h.elim (h1.run pins s σ H R I) (h2.run pins s σ H R I)⟩
end
theorem exm_self {K : PySem.W.Frag} {S : Addr} (h1 : PySem.W.subIn K (.ref S) (.type "BaseException") = some true) (h2 : PySem.W.isClsIn K S = true) (h3 : PySem.W.typeIn K (.ref S) = some (.type "type")) (h4 : PySem.W.subIn K (.ref S) (.ref S) = some true) :
    PySem.W.exmOne K (.ref S) (.ref S) = some true := by
  have e1 : (PySem.W.subIn K (.ref S) (.type "BaseException") == some true) = true := by rw [h1] <;> rfl
  have e2 : ((PySem.W.clsIn K S).isSome && PySem.W.typeIn K (.ref S) == some (.type "type")) = true := by
    have h2' : (PySem.W.clsIn K S).isSome = true := h2
    rw [h2', h3] <;> rfl
  show (if (PySem.W.subIn K (.ref S) (.type "BaseException") == some true) = true then (if ((PySem.W.clsIn K S).isSome && PySem.W.typeIn K (.ref S) == some (.type "type")) = true then PySem.W.subIn K (.ref S) (.ref S) else none) else none) = some true
  rw [if_pos e1, if_pos e2]
  exact h4
def tStop (t : TS) : TS := fun D σ H => t { D with nx := fun σ H => Stop (D.nx σ H) } σ H
theorem ps_stop {X : Cx} {st : Stmt} {t : TS} (h : PS X st t) : PS X st (tStop t) := by
  have e : tStop t = t := by
    funext D σ H
    unfold tStop
    simp only [stop_eq]
  rw [e]
  exact h
theorem lc_mapT {K : PySem.W.Frag} {a : Addr} {xs : List V} {g : TG} {te : TE} {vs : List Nat} {σ : L2.St} {H1 : Hp} {D : Addr} {Qd : Hp → Prop} (ys : List V) (ha : SqT K H1 a xs) (hD : H1 D = none) (hl : xs.length = ys.length) (hz : xs.length ≤ 10000)
    (hs : ∀ (i : Nat) (x y : V) (H' : Hp) (Q : VK), xs[i]? = some x → ys[i]? = some y → Same H1 H' → (∀ H'', Same H' H'' → Q y H'') → g x (wipe σ vs) H' fun σ2 H2 => wipe σ2 vs = wipe σ vs ∧ te σ2 H2 Q)
    (hd : ∀ H', Same H1 H' → H' D = some (.lst ys) → Qd H') :
    ∃ W : Nat → Nat → Hp → Prop, (∃ m, W 0 m (upd H1 D (.lst []))) ∧ ∀ i m H, W i m H →
      ((Itt K a).stop i H ∧ Qd H) ∨ ((Itt K a).go i H ∧ ∃ Nx : Hp → Prop, (∀ H', Nx H' → ∃ m', m' < m ∧ W (i + 1) m' H') ∧ ∀ x H', (Itt K a).yld i H x H' → g x (wipe σ vs) H' fun σ2 H2 => wipe σ2 vs = wipe σ vs ∧ tYes σ2 H2 fun b H3 =>
        if b = true then te σ2 H3 fun y H4 => ∃ acc, H4 D = some (.lst acc) ∧ acc.length < sizeLine ∧ Nx (upd H4 D (.lst (acc ++ [y]))) else Nx H3) := by
  refine lc_tup (xs := xs) (fun i H => Same H1 H ∧ H D = some (.lst (ys.take i))) ⟨same_upd hD, upd_same⟩ (fun i H _ h => ha.elim (fun r => r.elim (fun e => .inl (.inl (h.1 _ _ e))) (fun ⟨o, e⟩ => .inl (.inr ⟨o, h.1 _ _ e⟩))) .inr) (fun i x H hx h => ?_) (fun H h => hd H h.1 (by rw [h.2, List.take_of_length_le (by omega)]))
  have hi : i < ys.length := by have := (List.getElem?_eq_some_iff.mp hx).1; omega
  refine hs i x ys[i] H _ hx (List.getElem?_eq_getElem hi) h.1 (fun H'' s => ?_)
  refine ⟨ys.take i, s _ _ h.2, size_lt (by simp; omega), same_set (L2.Same.trans h.1 s) hD, ?_⟩
  rw [upd_same, List.take_add_one, List.getElem?_eq_getElem hi]; rfl
/-! ### two things of the same data -/
def FlatD (n : Nat) (d : PyData) : Prop := d.canLay0 = true ∧ d.depth ≤ n
theorem flat_all {n : Nat} : ∀ ds : List PyData, (∀ d ∈ ds, FlatD n d) → PyData.canLayAll0 ds = true ∧ PyData.depthAll ds ≤ n
  | [], _ => by simp [PyData.canLayAll0, PyData.depthAll]
  | d :: r, h => by
    have i := flat_all r fun x hx => h x (List.mem_cons_of_mem _ hx)
    have j := h d List.mem_cons_self
    unfold FlatD at j
    simp only [PyData.canLayAll0, PyData.depthAll, j.1, i.1, Bool.and_self, true_and]
    omega
theorem flat_list {n : Nat} {ds : List PyData} (h : ∀ d ∈ ds, FlatD n d) : FlatD (n + 1) (.list ds) := by
  have i := flat_all ds h
  exact ⟨by simp only [PyData.canLay0]; exact i.1, by simp only [PyData.depth]; omega⟩
theorem flat_tup {n : Nat} {ds : List PyData} (h : ∀ d ∈ ds, FlatD n d) : FlatD (n + 1) (.tuple ds) := by
  have i := flat_all ds h
  exact ⟨by simp only [PyData.canLay0]; exact i.1, by simp only [PyData.depth]; omega⟩
theorem flat_int (n : Nat) (i : Int) : FlatD n (.int i) := ⟨by simp [PyData.canLay0], by simp [PyData.depth]⟩
theorem flat_sh {n : Nat} {d : PyData} (h : FlatD n d) (hn : n ≤ 64 := by decide) : SeqAt.shaped d = true := by
  show (PyData.canLay0 d && decide (PyData.depth d ≤ 64)) = true
  rw [Bool.and_eq_true]
  exact ⟨h.1, decide_eq_true (Nat.le_trans h.2 hn)⟩
theorem op_eqS {X : Cx} (hu : X.A.units + 64 < cLine) : OpR X (compareOp .Eq) (fun x y H Q => ∃ d, Dp X.K H x d ∧ Dp X.K H y d ∧ SeqAt.shaped d = true ∧ Q (.bl true) H) := by
  intro pins s σ H x y v u Q I rx ry ⟨d, h1, h2, hs, k⟩
  refine op_eqD hu pins s σ H x y v u Q I rx ry ⟨d, d, h1, h2, hs, hs, ?_⟩
  rw [SeqAt.eqv_refl d (SeqAt.canLay_of_shaped hs)]; exact k
theorem op_neS {X : Cx} (hu : X.A.units + 64 < cLine) : OpR X (compareOp .NotEq) (fun x y H Q => ∃ d, Dp X.K H x d ∧ Dp X.K H y d ∧ SeqAt.shaped d = true ∧ Q (.bl false) H) := by
  intro pins s σ H x y v u Q I rx ry ⟨d, h1, h2, hs, k⟩
  refine op_neD hu pins s σ H x y v u Q I rx ry ⟨d, d, h1, h2, hs, hs, ?_⟩
  rw [SeqAt.eqv_refl d (SeqAt.canLay_of_shaped hs)]; exact k
/-- the only error's __init__: self.value = value -/
def spEI (C : Addr) : Sp := fun vs H Q _ => ∃ (a : Addr) (v : V), vs = [.ref a, v] ∧ H a = some (exo a C none) ∧ ∀ dx, H dx = none → dx ≠ a → Q .non (upd (upd H dx (exd dx [("value", v)])) a (exo a C (some dx)))
theorem ei_same {H : Hp} {a dx C : Addr} {fs : List (Str × V)} {o u : HO} (ha : H a = none) (hd : upd H a o dx = none) (ne : dx ≠ a) :
    Same H (upd (del (upd (upd (upd H a o) dx u) a (exo a C (some dx))) a) dx (.xd fs)) := fun b v e => by
  have n1 : b ≠ a := ne_of_none e ha
  have n2 : b ≠ dx := by
    intro z
    rw [z] at e
    rw [upd_ne ne] at hd
    rw [hd] at e
    cases e
  rw [upd_ne n2, del_ne n1, upd_ne n1, upd_ne n2, upd_ne n1]
  exact e
end Hx

set_option Elab.async false
set_option linter.all false
set_option maxRecDepth 100000
set_option maxHeartbeats 4000000
namespace Hx
open PySem PySem.Spec PyProof.Rows L2
/-! ### promises of defs under which no repr is under way -/
/-- as FnOk, for calls around which nothing is being written out -/
structure FnG (P : Program) (w : World) (K : PySem.W.Frag) (mg : Str → Option Value) (base : Heap) (k : Nat) (f : Addr) (fd : FuncData) (ps : List Str) (sp : Sp) : Prop where
  len : ∀ vs H Q E, sp vs H Q E → vs.length = ps.length
  run : ∀ (A : Around) (outer : List Env) (s : Shared) (H : Hp) (args : Args) (us : List Value) (vs : List V) (Q : VK) (E : XK), A.guards = some [] → Room k A → Env0 P w K mg base A outer s H → BindsTo s fd args (ps.zip us) → Vals vs us → sp vs H Q E →
    codeAny (model P w) A (.call (.ref f) args) (CR CX0 outer P w H s Q E) s
theorem FnG.mono {P : Program} {w : World} {K : PySem.W.Frag} {mg : Str → Option Value} {base : Heap} {j k : Nat} {f : Addr} {fd : FuncData} {ps : List Str} {sp : Sp} (F : FnG P w K mg base j f fd ps sp) (h : j ≤ k) : FnG P w K mg base k f fd ps sp :=
  ⟨F.len, fun A o s H a us vs Q E g r => F.run A o s H a us vs Q E g (r.mono h)⟩
theorem fnG {P : Program} {w : World} {K : PySem.W.Frag} {mg : Str → Option Value} {base : Heap} {x qual : Str} {st : Stmt} {f : Addr} {fd : FuncData} {N ps : List Str} {k : Nat} {sp : Sp} (F : Fun K x qual st f fd) (S : FnScope N ps (defScope st)) (len : ∀ vs H Q E, sp vs H Q E → vs.length = ps.length)
    (hbody : ∀ (cdv : Value) (A : Around) (outer : List Env) (s : Shared) (H : Hp) (vs : List V) (Q : VK) (E : XK), Room k (A.deeper (envOfC qual (defScope st) s.heap.objs.size f cdv)) → (A.deeper (envOfC qual (defScope st) s.heap.objs.size f cdv)).guards = some [] → sp vs H Q E →
      ∃ t, PSs (cxOf CX0 P w K mg base N qual (defScope st) f cdv A outer s H E).nox (defBody st) t ∧ t { nx := fun _ H' => Q .non H', rt := Q } (start N vs) H) : FnG P w K mg base (k + 1) f fd ps sp := by
  obtain ⟨oc, od, kV, doc, pm, an, cdv, ct, osl, rfl, lk, hcd⟩ := F.ex
  constructor
  · exact len
  intro A outer s H args us vs Q E hg hr e0 hb r hsp
  have old := fun b o e => (e0.bs b o e).1
  have KX := e0.mod.kin.keeps old
  have lim := e0.mod.nolimit.keeps old
  apply codeAny_call_function hr.depth (KX _ _ lk) rfl S.co S.gen rfl (PySem.W.codeRec_of KX hcd)
  apply hb
  apply wpAny_newFunctionEnv_cells S.kind
  · intro y hy
    exact (S.par y.1 (List.of_mem_zip hy).1).imp id fun q => ⟨q, PySem.W.cellsFrom_some _ _ _ (.inl q)⟩
  intro env he s1 x
  subst he
  refine ⟨lim.keeps x.toInCall.keep, codeAny_func ?_⟩
  obtain ⟨t, ht, hq⟩ := hbody cdv A outer s H vs Q E (hr.deeper _) hg hsp
  have I := inv_start (CX := CX0) (E := E) (base := base) S hr.hd e0 (len _ _ _ _ hsp) r x
  refine wpAny_mono (ht.nox.run [] s1 _ H _ I hq) (fun fl s' hs => ?_) fun e s' hs => hs
  match fl, hs with
  | .ret u, ⟨v, _, H', J, rv, q⟩ => exact ⟨v, H', J.os, J.bare, J.base, J.hok, rv, q⟩
  | .next, ⟨_, H', J, q⟩ => exact ⟨V.non, H', J.os, J.bare, J.base, J.hok, rfl, q⟩
  | .brk, ⟨_, _, _, q⟩ => exact q.elim
  | .cont, ⟨_, _, _, q⟩ => exact q.elim
section
variable {X : Cx} {k : Nat} {f : Addr} {fd : FuncData} {ps : List Str} {sp : Sp} {E : XK} {x : Str} {p pos : Pos} {e : Expr} {es : List Expr} {t : TA}
/-- f(e, ..) of such a def -/
theorem pe_callG (hu : X.A.guards = some []) (F : FnG X.prog X.w X.K X.mg X.base k f fd ps sp) (hr : Room k X.A) (hg : Gl X x) (hm : X.mg x = some (.ref f)) (hk : PySem.W.keepIn X.K (.ref f) = true) (hb : Binds X.K fd ps [])
    (ha : PA X (e :: es) t) (hdb : (x == ("__debug__" : Str)) = false := by decide) (he : starEach (e :: es) X.env = (false, eval e X.env) :: starEach es X.env := by rfl) (hpl : (backTo pos (starEach es X.env)).any (·.1) = false := by rfl) :
    PE X (.Call (.Name x p) (e :: es) [] pos) (tCall sp [] E t) := by
  constructor
  intro pins s σ H Q I h
  apply wpAny_Call_Name_kw (ld_glob I hg hm ?_ hdb)
  refine PySem.W.callWith_K (h₀ := X.base) I.ok.mod.kin hk (thn (ha.run pos pins s σ H _ I h) fun us s1 ⟨vs, H1, I1, r, q⟩ => ⟨I1.kIn, ?_⟩) he hpl
  have q : sp (vs ++ []) H1 Q E := q
  rw [List.append_nil] at q
  have hl : us.length = ps.length := by rw [← r.length]; exact F.len _ _ _ _ q
  have b := hb s1 us I1.kIn (by rw [List.append_nil]; exact hl)
  rw [List.append_nil] at b
  refine wpAny_call (codeAny_mono (F.run X.A X.stack s1 H1 ⟨us, []⟩ us vs Q E hu hr I1.env0 b r q) fun r s' hq => ?_)
  match r, hq with
  | .ok (.ret u), hq => exact I1.after hq
  | .error e, hq => exact False.elim hq
  | .ok .next, hq => exact False.elim hq
  | .ok .brk, hq => exact False.elim hq
  | .ok .cont, hq => exact False.elim hq
/-- repr of a list, a tuple, of things that show -/
theorem call_reprG (hg : X.A.guards = some []) (hr : Room 0 X.A) : CallR X (.builtin "repr") (fun xs H Q => ∃ (a : Addr) (d : PyData), xs = [.ref a] ∧ Dp X.K H (.ref a) d ∧ d.showable = true ∧ d.hasDict = false ∧ d.depth ≤ 64 ∧ d.shown.length ≤ sizeLine ∧ Q (.str d.shown) H) := by
  intro pins s σ H xs us Q I r h
  obtain ⟨a, d, rfl, hd, hs, hn, hp, hz, q⟩ := h
  rw [Vals.ref1 r]
  obtain ⟨as, hR⟩ := Dp.reads I d _ (.ref a) hd rfl
  have hu := hr.un
  exact repr_of_reads' hR hs (fun z => by rw [hn] at z; cases z) hg (by omega) (fun _ _ e => e) (fun h' u tk hk => ⟨.str _, H, I.kept hk, ⟨_, rfl⟩, q⟩) hz
end
theorem call_repr_bl {X : Cx} : CallR X (.builtin "repr") (fun xs H Q => ∃ b : Bool, xs = [.bl b] ∧ Q (.str (if b then "True" else "False")) H) := by
  intro pins s σ H xs us Q I r h
  obtain ⟨b, rfl, q⟩ := h
  cases r with
  | cons ru rn =>
    cases rn
    cases ru
    exact PySem.P.repr_of_bool ⟨.str _, H, I.tok _, ⟨_, rfl⟩, q⟩
/-! ### the head's call of such a law -/
theorem law_callG {P : Program} {w : World} {K : PySem.W.Frag} {mg mb : Str → Option Value} {k : Nat} {fa a : Addr} {fd : FuncData} {x : Str} {sp : Sp} {s : Shared} {vs : List Value} {ns : List Int}
    (KX : K.In s.heap) (hns : s.heap.Ns mainGlobals mg) (hb : s.heap.Ns builtinsNs mb) (hbb : ∀ x : Str, x ≠ "__name__" → mb x = bootBuiltins x) (hlim : s.heap.NoLimit) (hg : s.gens = #[])
    (ha : s.heap.get? a = some { cls := .type "list", data := .seq vs.toArray }) (hi : IntsAre vs ns) (hl : ns.length ≤ sizeLine) (hr : Room k callerA)
    (F : ∀ base : Heap, K.In base → base.Ns mainGlobals mg → FnG P w K mg base k fa fd [x] sp) (hbind : ∀ (s : Shared) (u : Value), BindsTo s fd ⟨[u], []⟩ [(x, u)])
    (hsp : ∀ H : Hp, Only H → SqL K H a (ns.map V.int) → sp [.ref a] H (fun v _ => v = .bl true) fun _ _ _ => False) :
    codeAny (model P w) callerA (.call (.ref fa) ⟨[.ref a], []⟩) (fun r s' => r = .ok (.ret (.bool true)) ∧ OldK s.heap s'.heap ∧ s'.os = s.os ∧ AllBare s'.gens) s := by
  let fz : HO := .frz { cls := .type "list", data := .seq vs.toArray } (.lst (ns.map V.int))
  let H : Hp := fun b => if b = a ∧ K.lookup a = none then some fz else none
  have rv := vals_ints hi
  have hH : ∀ {b : Addr} {u : HO}, H b = some u → b = a ∧ K.lookup a = none ∧ u = fz := fun {b u} z => by
    by_cases q : b = a ∧ K.lookup a = none
    · have z' := (if_pos q).symm.trans z
      exact ⟨q.1, q.2, (Option.some.inj z').symm⟩
    · have z' := (if_neg q).symm.trans z
      cases z'
  have hO : Only H := fun b => by
    by_cases q : b = a ∧ K.lookup a = none
    · exact .inr ⟨_, _, if_pos q⟩
    · exact .inl (if_neg q)
  have hok : HOk P w H s.heap := fun b u z => by
    obtain ⟨rfl, _, rfl⟩ := hH z
    exact ⟨ha, by rw [List.length_map]; exact hl, vs, _, rv, ha⟩
  have hS : SqL K H a (ns.map V.int) := by
    cases hk : K.lookup a with
    | some o =>
      have e := KX a o hk
      rw [ha] at e
      cases e
      exact .inr ⟨_, vs.toArray, _, hk, rfl, rfl, rfl, by rw [List.size_toArray, hi.length]; exact hl, by simpa using rv⟩
    | none => exact .inl (.inr ⟨_, if_pos ⟨rfl, hk⟩⟩)
  have hid : ∀ {b : Addr} {o : Obj}, s.heap.get? b = some o → (b = a → K.lookup a = none → False) → (hidT s.heap H).get? b = some o := fun {b o} e n => hidT_get e (by
    cases q : H b with
    | none => rfl
    | some u => exact (n (hH q).1 (hH q).2.1).elim)
  have nsK : ∀ {b : Addr} {m : Str → Option Value}, s.heap.Ns b m → (hidT s.heap H).Ns b m := fun {b m} ⟨o, es, ep, e, d, r⟩ => ⟨o, es, ep, hid e (fun z _ => by
    subst z
    rw [ha] at e
    cases e
    have d' : Data.seq vs.toArray _ = Data.dict es ep := d
    cases d'), d, r⟩
  have hKb : K.In (hidT s.heap H) := fun b o e => hid (KX b o e) fun z n => by
    subst z
    rw [n] at e
    cases e
  have e0 : Env0 P w K mg (hidT s.heap H) callerA [] s H := ⟨rfl, ⟨hKb, nsK hns, ⟨mb, nsK hb, hbb⟩, hlim.elim fun mc h => ⟨mc, nsK h.1, h.2⟩⟩, fun b o e => of_hidT e, Nat.le_of_eq (hidT_size _ _), trivial, fun b hb => absurd hb List.not_mem_nil, hok, .of_eq hg⟩
  refine codeAny_mono ((F _ hKb (nsK hns)).run callerA [] s H ⟨[.ref a], []⟩ [.ref a] [.ref a] _ _ rfl hr e0 (hbind s (.ref a)) (.cons rfl .nil) (hsp H hO hS)) fun r s' h => ?_
  match r, h with
  | .error e, h => exact h.elim
  | .ok .next, h => exact False.elim h
  | .ok .brk, h => exact False.elim h
  | .ok .cont, h => exact False.elim h
  | .ok (.ret u), ⟨v, H', os, bare, un, hok', r', q⟩ =>
    obtain rfl : v = .bl true := q
    obtain rfl : u = Value.bool true := r'
    refine ⟨rfl, OldK.of_keep fun b o e => ?_, os, bare⟩
    cases q : H b with
    | none => exact un.keep b o e q (fun z => List.not_mem_nil z) List.not_mem_nil
    | some u =>
      obtain ⟨rfl, _, rfl⟩ := hH q
      obtain ⟨e1, _⟩ := hok _ _ q
      obtain ⟨e2, _⟩ := hok' _ _ (un.frzs _ _ _ q)
      rw [e] at e1
      cases e1
      exact e2
theorem walk_ofG {l : PySem.W.OpenLaw} {n k : Nat} {q : Program} {loose : List Str} {XP : (Str → Option Value) → Heap → Prop} {YP : World → Heap → Prop} {d : DefRec} {K : Params → PySem.W.Frag} {sp : World → Sp} {x : Str}
    (hn : l.most = some n) (hn2 : n ≤ sizeLine) (hdf : d.params.defaults = []) (hr : Room k callerA)
    (hY : ∀ (w : World) (h : Heap), YP w h → (K w.params).In h)
    (F : ∀ (w : World) (mg : Str → Option Value) (fa : Addr) (h : Heap), (K w.params).In h → h.Ns mainGlobals mg → mg d.name = some (.ref fa) →
      ∃ fd : FuncData, (∀ (s : Shared) (u : Value), BindsTo s fd ⟨[u], []⟩ [(x, u)]) ∧ ∀ base : Heap, (K w.params).In base → base.Ns mainGlobals mg → FnG l.prog w (K w.params) mg base k fa fd [x] (sp w))
    (hsp : ∀ (w : World) (H : Hp) (a : Addr) (ns : List Int), ns.length ≤ n → Only H → SqL (K w.params) H a (ns.map V.int) → sp w [.ref a] H (fun v _ => v = .bl true) fun _ _ _ => False) :
    PySem.W.WalkO q loose XP YP l.row.toRowW d [] (fun f vs => PySem.call f vs) := by
  apply Att.attach_call hn hdf
  intro w s₀ s₁ mg mb fa o pm cd doc a vs ns G Y ho hd hcd hmg hobj hints hlen hg
  obtain ⟨fd, hb, hF⟩ := F w mg fa _ (hY w _ Y) G.T.g hmg
  exact law_callG (hY w _ Y) G.T.g G.T.b G.T.builtins G.T.nolimit hg hobj hints (Nat.le_trans hlen hn2) hr hF hb fun H hO hS => hsp w H a ns hlen hO hS
end Hx

set_option Elab.async false
set_option linter.all false
set_option maxRecDepth 100000
set_option maxHeartbeats 4000000
namespace Hx
open PySem PySem.Spec PyProof.Rows L2
/-- x == y by the class's own ==, whatever it answers -/
theorem op_eqOwn {X : Cx} {n : Nat} {C f : Addr} {fd : FuncData} {ps : List Str} {sp : Sp} (F : FnOk X.prog X.w X.K X.mg X.base CX0 n f fd ps sp) (hr : Room n X.A)
    (hs : PySem.W.findIn X.K (.ref C) "__eq__" = some (some (.ref f))) (hf : PySem.W.isFn X.K (.ref f) = true) (hb : Binds X.K fd ps []) :
    OpR X (compareOp .Eq) (fun x y H Q => ∃ a b dx dy fs gs, x = .ref a ∧ y = .ref b ∧ H a = some (.ins C dx fs) ∧ H b = some (.ins C dy gs) ∧ sp [.ref a, .ref b] H (fun v H' => ∃ c, v = .bl c ∧ Q (.bl c) H') (fun _ _ _ => False)) := by
  intro pins s σ H x y v u Q I rx ry h
  obtain ⟨a, b, dx, dy, fs, gs, rfl, rfl, ha, hb', hsp⟩ := h
  cases rx
  cases ry
  obtain ⟨mA, J, _⟩ := ins_get I.hok ha
  obtain ⟨mB, J', _⟩ := ins_get I.hok hb'
  obtain ⟨od, J, _⟩ := J.look
  obtain ⟨od', J', _⟩ := J'.look
  obtain ⟨m, hF⟩ := I.fr
  have hu := hr.un
  refine PySem.W.cmp_K (op := .Eq) (tb := .ref C) (by omega) hF I.ok.mod.kin J J'.type (by simp [PySem.W.notFirst]) hs hf ?_
  have hl := F.len _ _ _ _ hsp
  have r2 : Vals [V.ref a, V.ref b] [Value.ref a, Value.ref b] := .cons rfl (.cons rfl .nil)
  have hB : BindsTo s fd ⟨[.ref a, .ref b], []⟩ (ps.zip [.ref a, .ref b]) := by
    have := hb s [.ref a, .ref b] I.kIn (by simpa using hl)
    simpa using this
  refine wpAny_call (codeAny_mono (F.run X.A X.stack s H ⟨[.ref a, .ref b], []⟩ [.ref a, .ref b] [.ref a, .ref b] _ _ hr I.env0 hB r2 hsp) fun r s' hq => ?_)
  match r, hq with
  | .ok (.ret w), hq =>
    obtain ⟨z, H', I', rz, c, rfl, q⟩ := I.after hq
    cases rz
    exact ⟨.bl c, H', I', rfl, q⟩
  | .error e, hq => exact False.elim hq
  | .ok .next, hq => exact False.elim hq
  | .ok .brk, hq => exact False.elim hq
  | .ok .cont, hq => exact False.elim hq
/-! ### how long the text of whole numbers is -/
theorem text_le : ∀ (ts : List Str) (k : Nat) (acc : Str), (textFrom k acc ts).length ≤ acc.length + piled ts
  | [], _, acc => Nat.le_add_right _ _
  | t :: r, k, acc => by
    have ih := text_le r (k + 1) (acc ++ (if k > 0 then ", " else "" : String) ++ t)
    have e : (acc ++ (if k > 0 then ", " else "" : String) ++ t).length ≤ acc.length + 2 + t.length := by
      rw [strLen_append, strLen_append]
      split
      · exact Nat.le_refl _
      · exact Nat.add_le_add_right (Nat.add_le_add_left (Nat.zero_le 2) _) _
    show (textFrom (k + 1) _ r).length ≤ _
    rw [piled_cons]; omega
theorem piled_words : ∀ ns : List Int, (∀ n ∈ ns, 0 ≤ n ∧ n < 10 ^ 20) → piled (PyData.shownAll (ns.map PyData.int)) ≤ 22 * ns.length
  | [], _ => Nat.le_refl _
  | n :: r, h => by
    have i := piled_words r fun x hx => h x (List.mem_cons_of_mem _ hx)
    have j := toString_length_le (h n List.mem_cons_self).1 (by decide : 0 < 20) (h n List.mem_cons_self).2
    rw [List.map_cons, PyData.shownAll, piled_cons, PyData.shown, List.length_cons]
    omega
theorem words_dict : ∀ ns : List Int, PyData.hasDictAll (ns.map PyData.int) = false
  | [] => rfl
  | n :: r => by rw [List.map_cons, PyData.hasDictAll, PyData.hasDict, words_dict r] <;> rfl
theorem log_small {n : Int} (h : 0 ≤ n ∧ n < 10 ^ 20) : n.natAbs.log2 < 1920 := by
  by_cases z : n.natAbs = 0
  · rw [z]; decide
  · refine Nat.lt_trans (m := 67) ?_ (by decide)
    rw [Nat.log2_lt z]
    omega
theorem words_show : ∀ ns : List Int, (∀ n ∈ ns, 0 ≤ n ∧ n < 10 ^ 20) → PyData.showableAll (ns.map PyData.int) = true
  | [], _ => rfl
  | n :: r, h => by
    rw [List.map_cons, PyData.showableAll, PyData.showable, words_show r fun x hx => h x (List.mem_cons_of_mem _ hx), decide_eq_true (log_small (h n List.mem_cons_self))] <;> rfl
theorem words_depth : ∀ ns : List Int, PyData.depthAll (ns.map PyData.int) = 0
  | [] => by simp [PyData.depthAll]
  | n :: r => by simp [PyData.depthAll, PyData.depth, words_depth r]
/-- a list of words: all that repr asks -/
theorem shown_words {ns : List Int} (h : ∀ n ∈ ns, 0 ≤ n ∧ n < 10 ^ 20) (hl : ns.length ≤ 400) : (PyData.list (ns.map PyData.int)).showable = true ∧ (PyData.list (ns.map PyData.int)).hasDict = false ∧ (PyData.list (ns.map PyData.int)).depth ≤ 64 ∧ (PyData.list (ns.map PyData.int)).shown.length ≤ sizeLine := by
  refine ⟨by rw [PyData.showable]; exact words_show ns h, by rw [PyData.hasDict]; exact words_dict ns, by rw [PyData.depth, words_depth]; decide, ?_⟩
  rw [PyData.shown]
  have a := text_le (PyData.shownAll (ns.map PyData.int)) 0 "["
  have b := piled_words ns h
  show (textFrom 0 "[" _ ++ "]").length ≤ _
  rw [strLen_append, sizeLine_eq]
  have e : (("[" : String) : Str).length = 1 := rfl
  have e2 : (("]" : String) : Str).length = 1 := rfl
  rw [e] at a
  rw [e2]
  omega
/-! ### o.m(b=.., a=..) of two, in the other sequence -/
def kwR {α : Type} (us ws : List α) : List α := match us, ws with | [x], [b, a] => [x, a, b] | _, _ => []
theorem kw_bindsR {K : PySem.W.Frag} {x qual : Str} {st : Stmt} {f : Addr} {fd : FuncData} {ps : List Str} {p0 p1 p2 : Str} (F : Fun K x qual st f fd) (hp : ps = [p0, p1, p2])
    (h : ∀ (kV doc pm : Value) (an : Option Addr) (cdv ct : Value) (u a b : Value), bindArgs (PySem.W.fnOf x qual (defArgs st) (defBody st) (defScope st) .none kV doc pm an cdv ct) ⟨[u], [(p2, b), (p1, a)]⟩ = pure [(p0, u), (p1, a), (p2, b)]) : KBinds K fd ps [p2, p1] kwR kwR := by
  obtain ⟨oc, od, kV, doc, pm, an, cdv, ct, osl, rfl, lk, hcd⟩ := F.ex
  subst hp
  refine ⟨fun s us ws _ hl => ?_, fun {vs us zs ws} r1 r2 => ?_⟩
  · match us, ws, hl with
    | [u], [b, a], _ => exact .of_eq (h kV doc pm an cdv ct u a b)
    | [], _, hl => simp [kwR] at hl
    | [_], [], hl => simp [kwR] at hl
    | [_], [_], hl => simp [kwR] at hl
    | [_], _ :: _ :: _ :: _, hl => simp [kwR] at hl
    | _ :: _ :: _, _, hl => simp [kwR] at hl
  · cases r1 with
    | nil => exact .nil
    | cons a t =>
      cases t with
      | cons b t => exact .nil
      | nil =>
        cases r2 with
        | nil => exact .nil
        | cons b r2 =>
          cases r2 with
          | nil => exact .nil
          | cons c r2 =>
            cases r2 with
            | nil => exact .cons a (.cons c (.cons b .nil))
            | cons _ _ => exact .nil
/-! ### a list of ints beside the empty one -/
theorem eqv_nil (ns : List Int) : PyData.eqv (.list (ns.map PyData.int)) (.list []) = ns.isEmpty := by
  cases ns with
  | nil => exact eqv_ints []
  | cons a r => simp [PyData.eqv, PyData.eqvAll]
theorem op_neNil {X : Cx} (hu : X.A.units + 64 < cLine) : OpR X (compareOp .NotEq) (fun x y H Q => ∃ (p q : Addr) (ns : List Int), x = .ref p ∧ y = .ref q ∧ SqL X.K H p (ns.map V.int) ∧ SqL X.K H q [] ∧ Q (.bl (!ns.isEmpty)) H) := by
  intro pins s σ H x y v u Q I rx ry ⟨p, q, ns, e1, e2, h1, h2, k⟩
  refine op_neD hu pins s σ H x y v u Q I rx ry ⟨.list (ns.map PyData.int), .list [], ?_, ?_, ?_, ?_, ?_⟩
  · rw [e1]; exact .lst h1 (dp_ints ns)
  · rw [e2]; exact .lst h2 .nil
  · exact sh_ints ns
  · exact sh_ints []
  · rw [eqv_nil]; exact k
end Hx

set_option Elab.async false
set_option linter.all false
set_option maxRecDepth 100000
set_option maxHeartbeats 4000000
namespace Hx
open PySem PySem.Spec PyProof.Rows L2
/-! ### lists of pairs of ints; things of the same data in a grown heap -/
def rowD (r : Int × Int) : PyData := .tuple [.int r.1, .int r.2]
def rowsD (rs : List (Int × Int)) : PyData := .list (rs.map rowD)
theorem dp_rows {K : PySem.W.Frag} {H : Hp} : ∀ (ts : List Addr) (rs : List (Int × Int)), ts.length = rs.length → (∀ (i : Nat) (t : Addr) (r : Int × Int), ts[i]? = some t → rs[i]? = some r → H t = some (.tup [.int r.1, .int r.2])) → DpAll K H (ts.map V.ref) (rs.map rowD)
  | [], [], _, _ => .nil
  | t :: ts, r :: rs, hl, h => .cons (.tup (SqT.of (h 0 t r rfl rfl)) (.cons (.int _) (.cons (.int _) .nil))) (dp_rows ts rs (by simpa using hl) fun i t' r' h1 h2 => h (i + 1) t' r' (by simpa using h1) (by simpa using h2))
  | [], _ :: _, hl, _ => by simp at hl
  | _ :: _, [], hl, _ => by simp at hl
theorem rows_sh (rs : List (Int × Int)) : SeqAt.shaped (rowsD rs) = true := flat_sh (n := 2) (flat_list (n := 1) fun d hd => by
  obtain ⟨r, _, rfl⟩ := List.mem_map.mp hd
  exact flat_tup (n := 0) fun d hd => by
    simp at hd
    rcases hd with rfl | rfl <;> exact flat_int 0 _)
theorem sqt_same {K : PySem.W.Frag} {H H' : Hp} {a : Addr} {xs : List V} (s : Same H H') (h : SqT K H a xs) : SqT K H' a xs := h.elim (fun r => r.elim (fun e => .inl (.inl (s _ _ e))) (fun ⟨o, e⟩ => .inl (.inr ⟨o, s _ _ e⟩))) .inr
mutual
theorem dp_same {K : PySem.W.Frag} {H H' : Hp} (s : Same H H') : ∀ (d : PyData) (v : V), Dp K H v d → Dp K H' v d
  | .none, _, h => by cases h; exact .non
  | .bool b, _, h => by cases h; exact .bl b
  | .int i, _, h => by cases h; exact .int i
  | .str x, _, h => by cases h; exact .str x
  | .list ds, _, h => by cases h with | lst h1 h2 => exact .lst (L2.Same.seq s h1) (dpA_same s ds _ h2)
  | .tuple ds, _, h => by cases h with | tup h1 h2 => exact .tup (sqt_same s h1) (dpA_same s ds _ h2)
  | .dict _, _, h => by cases h
theorem dpA_same {K : PySem.W.Frag} {H H' : Hp} (s : Same H H') : ∀ (ds : List PyData) (vs : List V), DpAll K H vs ds → DpAll K H' vs ds
  | [], _, h => by cases h; exact .nil
  | d :: ds, _, h => by cases h with | cons h1 h2 => exact .cons (dp_same s d _ h1) (dpA_same s ds _ h2)
end
end Hx

set_option Elab.async false
set_option linter.all false
set_option maxRecDepth 100000
set_option maxHeartbeats 4000000
namespace Hx
open PySem PySem.Spec PyProof.Rows L2
/-! ### keywords in any sequence: n values by place, then those of the permutation -/
def kwP {α : Type} (n : Nat) (perm : List Nat) (us ws : List α) : List α := if us.length = n ∧ ws.length = perm.length then us ++ perm.filterMap (fun i => ws[i]?) else []
theorem vals_append {a b : List V} {x y : List Value} (h : Vals a x) (k : Vals b y) : Vals (a ++ b) (x ++ y) := by
  induction h with
  | nil => exact k
  | cons r t ih => exact .cons r ih
theorem vals_get {a : List V} {x : List Value} (h : Vals a x) : ∀ i : Nat, (∃ v u, a[i]? = some v ∧ x[i]? = some u ∧ RelV v u) ∨ (a[i]? = none ∧ x[i]? = none) := by
  induction h with
  | nil => exact fun i => .inr ⟨by simp, by simp⟩
  | cons r t ih =>
    intro i
    cases i with
    | zero => exact .inl ⟨_, _, rfl, rfl, r⟩
    | succ j => simpa using ih j
theorem vals_perm {a : List V} {x : List Value} (h : Vals a x) : ∀ perm : List Nat, Vals (perm.filterMap (fun i => a[i]?)) (perm.filterMap (fun i => x[i]?))
  | [] => .nil
  | i :: r => by
    have t := vals_perm h r
    rcases vals_get h i with ⟨v, u, e1, e2, q⟩ | ⟨e1, e2⟩
    · rw [List.filterMap_cons, List.filterMap_cons, e1, e2]; exact .cons q t
    · rw [List.filterMap_cons, List.filterMap_cons, e1, e2]; exact t
theorem vals_kwP {n : Nat} {perm : List Nat} {vs zs : List V} {us ws : List Value} (h : Vals vs us) (k : Vals zs ws) : Vals (kwP n perm vs zs) (kwP n perm us ws) := by
  unfold kwP
  rw [h.length, k.length]
  split
  · exact vals_append h (vals_perm k perm)
  · exact .nil
theorem kw_bindsP {K : PySem.W.Frag} {x qual : Str} {st : Stmt} {f : Addr} {fd : FuncData} {ps ks : List Str} {n : Nat} {perm : List Nat} (F : Fun K x qual st f fd) (h0 : 0 < ps.length)
    (h : ∀ (kV doc pm : Value) (an : Option Addr) (cdv ct : Value) (us ws : List Value), us.length = n → ws.length = perm.length → bindArgs (PySem.W.fnOf x qual (defArgs st) (defBody st) (defScope st) .none kV doc pm an cdv ct) ⟨us, ks.zip ws⟩ = pure (ps.zip (kwP n perm us ws))) : KBinds K fd ps ks (kwP n perm) (kwP n perm) := by
  obtain ⟨oc, od, kV, doc, pm, an, cdv, ct, osl, rfl, lk, hcd⟩ := F.ex
  refine ⟨fun s us ws _ hl => ?_, fun r1 r2 => vals_kwP r1 r2⟩
  by_cases q : us.length = n ∧ ws.length = perm.length
  · exact .of_eq (h kV doc pm an cdv ct us ws q.1 q.2)
  · unfold kwP at hl; rw [if_neg q] at hl; simp at hl; omega
theorem kw_bindsN {K : PySem.W.Frag} {x qual : Str} {st : Stmt} {f : Addr} {fd : FuncData} {ps ks : List Str} {n : Nat} {perm : List Nat} (F : Fun K x qual st f fd) (h0 : ks.length = perm.length)
    (h : ∀ (kV doc pm : Value) (an : Option Addr) (cdv ct : Value) (us ws : List Value), us.length = n → ws.length = perm.length → bindArgs (PySem.W.fnOf x qual (defArgs st) (defBody st) (defScope st) .none kV doc pm an cdv ct) ⟨us, ks.zip ws⟩ = pure (ps.zip (kwP n perm us ws))) : KBn K fd ps n ks (kwP n perm) (kwP n perm) := by
  obtain ⟨oc, od, kV, doc, pm, an, cdv, ct, osl, rfl, lk, hcd⟩ := F.ex
  exact ⟨fun s us ws _ l1 l2 => .of_eq (h kV doc pm an cdv ct us ws l1 (l2.trans h0)), fun r1 r2 => vals_kwP r1 r2⟩
/-! ### an own == beside a list -/
theorem op_eqOwnL {X : Cx} {n : Nat} {C f : Addr} {fd : FuncData} {ps : List Str} {sp : Sp} (F : FnOk X.prog X.w X.K X.mg X.base CX0 n f fd ps sp) (hr : Room n X.A)
    (hs : PySem.W.findIn X.K (.ref C) "__eq__" = some (some (.ref f))) (hf : PySem.W.isFn X.K (.ref f) = true) (hb : Binds X.K fd ps []) (hsl : PySem.W.subIn X.K (.type "list") (.ref C) = some false) :
    OpR X (compareOp .Eq) (fun x y H Q => ∃ a b dx fs xs, x = .ref a ∧ y = .ref b ∧ H a = some (.ins C dx fs) ∧ H b = some (.lst xs) ∧ sp [.ref a, .ref b] H (fun v H' => ∃ c, v = .bl c ∧ Q (.bl c) H') (fun _ _ _ => False)) := by
  intro pins s σ H x y v u Q I rx ry h
  obtain ⟨a, b, dx, fs, xs, rfl, rfl, ha, hb', hsp⟩ := h
  cases rx
  cases ry
  obtain ⟨mA, J, _⟩ := ins_get I.hok ha
  obtain ⟨od, J, _⟩ := J.look
  obtain ⟨_, _, nn, _, h1⟩ := (show ObjOk X.prog X.w H s.heap b (.lst xs) from I.hok b _ hb')
  obtain ⟨m, hF⟩ := I.fr
  have hu := hr.un
  refine PySem.W.cmp_K (op := .Eq) (tb := .type "list") (by omega) hF I.ok.mod.kin J (fun A Q E s k q => wpAny_typeOf_ref (k _ _ h1) q) (by simp [PySem.W.notFirst, hsl]) hs hf ?_
  have hl := F.len _ _ _ _ hsp
  have r2 : Vals [V.ref a, V.ref b] [Value.ref a, Value.ref b] := .cons rfl (.cons rfl .nil)
  have hB : BindsTo s fd ⟨[.ref a, .ref b], []⟩ (ps.zip [.ref a, .ref b]) := by
    have := hb s [.ref a, .ref b] I.kIn (by simpa using hl)
    simpa using this
  refine wpAny_call (codeAny_mono (F.run X.A X.stack s H ⟨[.ref a, .ref b], []⟩ [.ref a, .ref b] [.ref a, .ref b] _ _ hr I.env0 hB r2 hsp) fun r s' hq => ?_)
  match r, hq with
  | .ok (.ret w), hq =>
    obtain ⟨z, H', I', rz, c, rfl, q⟩ := I.after hq
    cases rz
    exact ⟨.bl c, H', I', rfl, q⟩
  | .error e, hq => exact False.elim hq
  | .ok .next, hq => exact False.elim hq
  | .ok .brk, hq => exact False.elim hq
  | .ok .cont, hq => exact False.elim hq
theorem kit_not {K : PySem.W.Frag} {C : Addr} (h1 : PySem.W.isClsIn K C = true) (h2 : PySem.W.typeIn K (.ref C) = some (.type "type")) (h3 : PySem.W.subIn K (.type "list") (.ref C) = some false) : PySem.W.kitOne K (.type "list") (.ref C) = some false := by
  have e : ((PySem.W.clsIn K C).isSome && PySem.W.typeIn K (.ref C) == some (.type "type")) = true := by
    have h1' : (PySem.W.clsIn K C).isSome = true := h1
    rw [h1', h2] <;> rfl
  show (if ((Value.type "list" == .ref C) = true) then some true else (if ((PySem.W.clsIn K C).isSome && PySem.W.typeIn K (.ref C) == some (.type "type")) = true then PySem.W.subIn K (.type "list") (.ref C) else none)) = some false
  rw [if_neg (by intro z; cases z), if_pos e]
  exact h3
/-! ### a comprehension that sifts -/
theorem lc_filt {α : Type} {K : PySem.W.Frag} {a : Addr} {g : TG} {tt : TT} {te : TE} {vs : List Nat} {σ : L2.St} {H1 : Hp} {D : Addr} {Qd : Hp → Prop} (zs : List α) (f : α → V) (t : α → Bool) (ha : SqL K H1 a (zs.map f)) (hD : H1 D = none) (hz : zs.length ≤ 10000)
    (hs : ∀ (i : Nat) (z : α) (H' : Hp) (Qn : Hp → Prop) (Qy : VK), zs[i]? = some z → Same H1 H' → (t z = false → ∀ H'', Same H' H'' → Qn H'') → (t z = true → ∀ H'', Same H' H'' → Qy (f z) H'') → g (f z) (wipe σ vs) H' fun σ2 H2 => wipe σ2 vs = wipe σ vs ∧ tt σ2 H2 fun b H3 => if b = true then te σ2 H3 Qy else Qn H3)
    (hd : ∀ H', Same H1 H' → H' D = some (.lst ((zs.filter t).map f)) → Qd H') :
    ∃ W : Nat → Nat → Hp → Prop, (∃ m, W 0 m (upd H1 D (.lst []))) ∧ ∀ i m H, W i m H →
      ((Itl K a).stop i H ∧ Qd H) ∨ ((Itl K a).go i H ∧ ∃ Nx : Hp → Prop, (∀ H', Nx H' → ∃ m', m' < m ∧ W (i + 1) m' H') ∧ ∀ x H', (Itl K a).yld i H x H' → g x (wipe σ vs) H' fun σ2 H2 => wipe σ2 vs = wipe σ vs ∧ tt σ2 H2 fun b H3 =>
        if b = true then te σ2 H3 fun y H4 => ∃ acc, H4 D = some (.lst acc) ∧ acc.length < sizeLine ∧ Nx (upd H4 D (.lst (acc ++ [y]))) else Nx H3) := by
  refine lc_list (xs := zs.map f) (fun i H => Same H1 H ∧ H D = some (.lst (((zs.take i).filter t).map f))) ⟨same_upd hD, upd_same⟩ (fun i H _ h => L2.Same.seq h.1 ha) (fun i x H hx h => ?_) (fun H h => hd H h.1 (by rw [h.2, List.length_map, List.take_length]))
  rw [List.getElem?_map] at hx
  obtain ⟨z, hz1, rfl⟩ := Option.map_eq_some_iff.mp hx
  have et : zs.take (i + 1) = zs.take i ++ [z] := by rw [List.take_add_one, hz1]; rfl
  refine hs i z H _ _ hz1 h.1 (fun tn H'' s => ?_) (fun ty H'' s => ?_)
  · refine ⟨L2.Same.trans h.1 s, ?_⟩
    rw [s _ _ h.2, et, List.filter_append, List.filter_cons_of_neg (by simp [tn]), List.filter_nil, List.append_nil]
  · refine ⟨((zs.take i).filter t).map f, s _ _ h.2, size_lt ?_, same_set (L2.Same.trans h.1 s) hD, ?_⟩
    · have := List.length_filter_le t (zs.take i)
      simp at this ⊢; omega
    · rw [upd_same, et, List.filter_append, List.filter_cons_of_pos ty, List.filter_nil, List.map_append]; rfl
/-! ### parts of a list -/
theorem cut_from (xs : List V) (k : Nat) : cutV xs (some (k : Int)) none = xs.drop k := by
  unfold cutV
  rw [HT.sIx_nat, HT.sIx_none, List.take_of_length_le (by rw [List.length_drop]; omega)]
  by_cases h : k ≤ xs.length
  · rw [Nat.min_eq_left h]
  · rw [Nat.min_eq_right (by omega), List.drop_length, List.drop_of_length_le (by omega)]
theorem cut_to (xs : List V) (k : Nat) : cutV xs none (some (k : Int)) = xs.take k := by
  unfold cutV
  rw [HT.sIx_nat, HT.sIx_none, List.drop_zero, Nat.sub_zero]
  by_cases h : k ≤ xs.length
  · rw [Nat.min_eq_left h]
  · rw [Nat.min_eq_right (by omega), List.take_length, List.take_of_length_le (by omega)]
/-! ### a list beside the empty one -/
theorem eqv_nilD (ds : List PyData) : PyData.eqv (.list ds) (.list []) = ds.isEmpty := by
  cases ds with
  | nil => rfl
  | cons a r => simp [PyData.eqv, PyData.eqvAll]
end Hx

set_option Elab.async false
set_option linter.all false
set_option maxRecDepth 100000
set_option maxHeartbeats 4000000
namespace Hx
open PySem PySem.Spec PyProof.Rows L2
/-! ### a list or a tuple -/
def Sq (K : PySem.W.Frag) (H : Hp) (a : Addr) (xs : List V) : Prop := H a = some (.lst xs) ∨ H a = some (.tup xs)
theorem Sq.same {K : PySem.W.Frag} {H H' : Hp} {a : Addr} {xs : List V} (s : Same H H') (h : Sq K H a xs) : Sq K H' a xs := h.imp (s _ _) (s _ _)
theorem Sq.or {K : PySem.W.Frag} {H : Hp} {a : Addr} {xs : List V} (h : Sq K H a xs) : SqL K H a xs ∨ SqT K H a xs := h.imp SqL.of SqT.of
def rIxB (K : PySem.W.Frag) : R2 := fun x y H Q => ∃ p xs i v, x = .ref p ∧ y = .int i ∧ Sq K H p xs ∧ atI xs i = some v ∧ Q v H
theorem ix_both {X : Cx} : IxR X (rIxB X.K) := by
  intro value slice pins s σ H x y v u Q I rx ry h hs
  obtain ⟨p, xs, i, z, rfl, rfl, hq, he, q⟩ := h
  rcases hq with hq | hq
  · exact ix_list value slice pins s σ H _ _ v u Q I rx ry ⟨p, xs, i, z, rfl, rfl, SqL.of hq, he, q⟩ hs
  · exact ix_tup value slice pins s σ H _ _ v u Q I rx ry ⟨p, xs, i, z, rfl, rfl, SqT.of hq, he, q⟩ hs
/-! ### texts of a few bools -/
theorem shown_bools (bs : List Bool) (hl : bs.length ≤ 400) : (PyData.list (bs.map PyData.bool)).showable = true ∧ (PyData.list (bs.map PyData.bool)).hasDict = false ∧ (PyData.list (bs.map PyData.bool)).depth ≤ 64 ∧ (PyData.list (bs.map PyData.bool)).shown.length ≤ sizeLine := by
  have h1 : ∀ bs : List Bool, PyData.showableAll (bs.map PyData.bool) = true := fun bs => by
    induction bs with
    | nil => rfl
    | cons b r ih => rw [List.map_cons, PyData.showableAll, PyData.showable, ih] <;> rfl
  have h2 : ∀ bs : List Bool, PyData.hasDictAll (bs.map PyData.bool) = false := fun bs => by
    induction bs with
    | nil => rfl
    | cons b r ih => rw [List.map_cons, PyData.hasDictAll, PyData.hasDict, ih] <;> rfl
  have h3 : ∀ bs : List Bool, PyData.depthAll (bs.map PyData.bool) = 0 := fun bs => by
    induction bs with
    | nil => simp [PyData.depthAll]
    | cons b r ih => simp [PyData.depthAll, PyData.depth, ih]
  have h4 : ∀ bs : List Bool, piled (PyData.shownAll (bs.map PyData.bool)) ≤ 22 * bs.length := fun bs => by
    induction bs with
    | nil => exact Nat.le_refl _
    | cons b r ih =>
      have e : (PyData.shown (.bool b)).length ≤ 5 := by cases b <;> decide
      rw [List.map_cons, PyData.shownAll, piled_cons, List.length_cons]
      omega
  refine ⟨by rw [PyData.showable]; exact h1 bs, by rw [PyData.hasDict]; exact h2 bs, by rw [PyData.depth, h3]; decide, ?_⟩
  rw [PyData.shown]
  have a := text_le (PyData.shownAll (bs.map PyData.bool)) 0 "["
  have b := h4 bs
  show (textFrom 0 "[" _ ++ "]").length ≤ _
  rw [strLen_append, sizeLine_eq]
  have e : (("[" : String) : Str).length = 1 := rfl
  have e2 : (("]" : String) : Str).length = 1 := rfl
  rw [e] at a
  rw [e2]
  omega
theorem dp_bools {K : PySem.W.Frag} {H : Hp} : ∀ bs : List Bool, DpAll K H (bs.map V.bl) (bs.map PyData.bool)
  | [] => .nil
  | b :: r => .cons (.bl b) (dp_bools r)
end Hx

set_option Elab.async false
set_option linter.all false
set_option maxRecDepth 100000
set_option maxHeartbeats 8000000

namespace K41
open PySem PySem.Spec PyProof.Rows L2 Hx
def top (i : Nat) : Stmt := PySem.Challenge.pw_orderlycore_k41_whole_controls_trapped_a.main.body.getD i (.Pass ⟨0, 0, 0, 0⟩)
abbrev s_is_integer : Stmt := top 9
theorem sc_is_integer : FnScope ["value"] ["value"] (defScope s_is_integer) := ⟨rfl, rfl, rfl, by decide +kernel, rfl, by decide +kernel, by decide +kernel⟩
abbrev s_is_between : Stmt := top 10
theorem sc_is_between : FnScope ["value", "least", "most"] ["value", "least", "most"] (defScope s_is_between) := ⟨rfl, rfl, rfl, by decide +kernel, rfl, by decide +kernel, by decide +kernel⟩
abbrev s_is_list : Stmt := top 11
theorem sc_is_list : FnScope ["value"] ["value"] (defScope s_is_list) := ⟨rfl, rfl, rfl, by decide +kernel, rfl, by decide +kernel, by decide +kernel⟩
abbrev s_need_cause : Stmt := top 14
theorem sc_need_cause : FnScope ["value"] ["value"] (defScope s_need_cause) := ⟨rfl, rfl, rfl, by decide +kernel, rfl, by decide +kernel, by decide +kernel⟩
abbrev s_is_word : Stmt := top 19
theorem sc_is_word : FnScope ["value"] ["value"] (defScope s_is_word) := ⟨rfl, rfl, rfl, by decide +kernel, rfl, by decide +kernel, by decide +kernel⟩
abbrev s_is_address : Stmt := top 20
theorem sc_is_address : FnScope ["value"] ["value"] (defScope s_is_address) := ⟨rfl, rfl, rfl, by decide +kernel, rfl, by decide +kernel, by decide +kernel⟩
abbrev s_is_word_list : Stmt := top 21
theorem sc_is_word_list : FnScope ["value", "one"] ["value"] (defScope s_is_word_list) := ⟨rfl, rfl, rfl, by decide +kernel, rfl, by decide +kernel, by decide +kernel⟩
abbrev s_need_word : Stmt := top 22
theorem sc_need_word : FnScope ["value"] ["value"] (defScope s_need_word) := ⟨rfl, rfl, rfl, by decide +kernel, rfl, by decide +kernel, by decide +kernel⟩
abbrev s_need_address : Stmt := top 23
theorem sc_need_address : FnScope ["value"] ["value"] (defScope s_need_address) := ⟨rfl, rfl, rfl, by decide +kernel, rfl, by decide +kernel, by decide +kernel⟩
abbrev s_need_bits : Stmt := top 24
theorem sc_need_bits : FnScope ["word", "low", "many"] ["word", "low", "many"] (defScope s_need_bits) := ⟨rfl, rfl, rfl, by decide +kernel, rfl, by decide +kernel, by decide +kernel⟩
abbrev s_bits : Stmt := top 25
theorem sc_bits : FnScope ["word", "low", "many"] ["word", "low", "many"] (defScope s_bits) := ⟨rfl, rfl, rfl, by decide +kernel, rfl, by decide +kernel, by decide +kernel⟩
abbrev s_with_bits : Stmt := top 26
theorem sc_with_bits : FnScope ["word", "low", "many", "value"] ["word", "low", "many", "value"] (defScope s_with_bits) := ⟨rfl, rfl, rfl, by decide +kernel, rfl, by decide +kernel, by decide +kernel⟩
abbrev s_need_controls : Stmt := top 45
theorem sc_need_controls : FnScope ["value"] ["value"] (defScope s_need_controls) := ⟨rfl, rfl, rfl, by decide +kernel, rfl, by decide +kernel, by decide +kernel⟩
abbrev s_fresh_controls : Stmt := top 46
theorem sc_fresh_controls : FnScope [] [] (defScope s_fresh_controls) := ⟨rfl, rfl, rfl, by decide +kernel, rfl, by decide +kernel, by decide +kernel⟩
abbrev s_is_supervisor : Stmt := top 47
theorem sc_is_supervisor : FnScope ["controls"] ["controls"] (defScope s_is_supervisor) := ⟨rfl, rfl, rfl, by decide +kernel, rfl, by decide +kernel, by decide +kernel⟩
abbrev s_is_on : Stmt := top 48
theorem sc_is_on : FnScope ["controls"] ["controls"] (defScope s_is_on) := ⟨rfl, rfl, rfl, by decide +kernel, rfl, by decide +kernel, by decide +kernel⟩
abbrev s_is_paged : Stmt := top 49
theorem sc_is_paged : FnScope ["controls"] ["controls"] (defScope s_is_paged) := ⟨rfl, rfl, rfl, by decide +kernel, rfl, by decide +kernel, by decide +kernel⟩
abbrev s_entry_address : Stmt := top 50
theorem sc_entry_address : FnScope ["controls"] ["controls"] (defScope s_entry_address) := ⟨rfl, rfl, rfl, by decide +kernel, rfl, by decide +kernel, by decide +kernel⟩
abbrev s_home_address : Stmt := top 51
theorem sc_home_address : FnScope ["controls"] ["controls"] (defScope s_home_address) := ⟨rfl, rfl, rfl, by decide +kernel, rfl, by decide +kernel, by decide +kernel⟩
abbrev s_root_frame : Stmt := top 52
theorem sc_root_frame : FnScope ["controls"] ["controls"] (defScope s_root_frame) := ⟨rfl, rfl, rfl, by decide +kernel, rfl, by decide +kernel, by decide +kernel⟩
abbrev s_line_mask : Stmt := top 53
theorem sc_line_mask : FnScope ["controls"] ["controls"] (defScope s_line_mask) := ⟨rfl, rfl, rfl, by decide +kernel, rfl, by decide +kernel, by decide +kernel⟩
abbrev s_trapped : Stmt := top 54
theorem sc_trapped : FnScope ["controls", "cause", "home", "bad", "told", "side"] ["controls", "cause", "home", "bad"] (defScope s_trapped) := ⟨rfl, rfl, rfl, by decide +kernel, rfl, by decide +kernel, by decide +kernel⟩
abbrev s_returned : Stmt := top 55
theorem sc_returned : FnScope ["controls", "told"] ["controls"] (defScope s_returned) := ⟨rfl, rfl, rfl, by decide +kernel, rfl, by decide +kernel, by decide +kernel⟩
abbrev s__status_bit : Stmt := top 56
theorem sc__status_bit : FnScope ["controls", "bit"] ["controls", "bit"] (defScope s__status_bit) := ⟨rfl, rfl, rfl, by decide +kernel, rfl, by decide +kernel, by decide +kernel⟩
abbrev s__with_side : Stmt := top 57
theorem sc__with_side : FnScope ["status", "side"] ["status", "side"] (defScope s__with_side) := ⟨rfl, rfl, rfl, by decide +kernel, rfl, by decide +kernel, by decide +kernel⟩
abbrev s_Lpot : Stmt := top 59
theorem sc_Lpot : FnScope ["_law_script", "_law_k", "_law_cell", "_law_mixed"] ["_law_script", "_law_k"] (defScope s_Lpot) := ⟨rfl, rfl, rfl, by decide +kernel, rfl, by decide +kernel, by decide +kernel⟩
abbrev s_Ldraw : Stmt := top 60
theorem sc_Ldraw : FnScope ["_law_pot_here", "_law_size", "_law_digit"] ["_law_pot_here", "_law_size"] (defScope s_Ldraw) := ⟨rfl, rfl, rfl, by decide +kernel, rfl, by decide +kernel, by decide +kernel⟩
abbrev s_Lpick : Stmt := top 61
theorem sc_Lpick : FnScope ["_law_pot_here", "_law_some"] ["_law_pot_here", "_law_some"] (defScope s_Lpick) := ⟨rfl, rfl, rfl, by decide +kernel, rfl, by decide +kernel, by decide +kernel⟩
abbrev s_Lcontrol : Stmt := top 62
theorem sc_Lcontrol : FnScope ["_law_pot_here"] ["_law_pot_here"] (defScope s_Lcontrol) := ⟨rfl, rfl, rfl, by decide +kernel, rfl, by decide +kernel, by decide +kernel⟩
abbrev s_Lbit : Stmt := top 63
theorem sc_Lbit : FnScope ["_law_word", "_law_at"] ["_law_word", "_law_at"] (defScope s_Lbit) := ⟨rfl, rfl, rfl, by decide +kernel, rfl, by decide +kernel, by decide +kernel⟩
abbrev s_Ltrapped : Stmt := top 64
theorem sc_Ltrapped : FnScope ["_law_controls", "_law_cause", "_law_home", "_law_bad", "_law_status", "_law_new"] ["_law_controls", "_law_cause", "_law_home", "_law_bad"] (defScope s_Ltrapped) := ⟨rfl, rfl, rfl, by decide +kernel, rfl, by decide +kernel, by decide +kernel⟩
abbrev s_Lreturned : Stmt := top 65
theorem sc_Lreturned : FnScope ["_law_controls", "_law_status"] ["_law_controls"] (defScope s_Lreturned) := ⟨rfl, rfl, rfl, by decide +kernel, rfl, by decide +kernel, by decide +kernel⟩
abbrev s_Lparts_right : Stmt := top 66
theorem sc_Lparts_right : FnScope ["_law_controls", "_law_status", "_law_told", "_law_due"] ["_law_controls"] (defScope s_Lparts_right) := ⟨rfl, rfl, rfl, by decide +kernel, rfl, by decide +kernel, by decide +kernel⟩
abbrev s_Lright : Stmt := top 67
theorem sc_Lright : FnScope ["_law_pot_here", "_law_controls", "_law_turn", "_law_shown", "_law_cause", "_law_home", "_law_bad", "_law_told", "_law_back", "_law_fresh"] ["_law_pot_here"] (defScope s_Lright) := ⟨rfl, rfl, rfl, by decide +kernel, rfl, by decide +kernel, by decide +kernel⟩
abbrev s_law : Stmt := top 68
theorem sc_law : FnScope ["_law_script"] ["_law_script"] (defScope s_law) := ⟨rfl, rfl, rfl, by decide +kernel, rfl, by decide +kernel, by decide +kernel⟩
structure Txt (K : PySem.W.Frag) (mg : Str → Option Value) where
  f_is_integer : Addr
  fd_is_integer : FuncData
  F_is_integer : Fun K "is_integer" "is_integer" s_is_integer f_is_integer fd_is_integer
  g_is_integer : mg "is_integer" = some (.ref f_is_integer)
  b_is_integer : Binds K fd_is_integer ["value"] []
  f_is_between : Addr
  fd_is_between : FuncData
  F_is_between : Fun K "is_between" "is_between" s_is_between f_is_between fd_is_between
  g_is_between : mg "is_between" = some (.ref f_is_between)
  b_is_between : Binds K fd_is_between ["value", "least", "most"] []
  f_is_list : Addr
  fd_is_list : FuncData
  F_is_list : Fun K "is_list" "is_list" s_is_list f_is_list fd_is_list
  g_is_list : mg "is_list" = some (.ref f_is_list)
  b_is_list : Binds K fd_is_list ["value"] []
  f_need_cause : Addr
  fd_need_cause : FuncData
  F_need_cause : Fun K "need_cause" "need_cause" s_need_cause f_need_cause fd_need_cause
  g_need_cause : mg "need_cause" = some (.ref f_need_cause)
  b_need_cause : Binds K fd_need_cause ["value"] []
  f_is_word : Addr
  fd_is_word : FuncData
  F_is_word : Fun K "is_word" "is_word" s_is_word f_is_word fd_is_word
  g_is_word : mg "is_word" = some (.ref f_is_word)
  b_is_word : Binds K fd_is_word ["value"] []
  f_is_address : Addr
  fd_is_address : FuncData
  F_is_address : Fun K "is_address" "is_address" s_is_address f_is_address fd_is_address
  g_is_address : mg "is_address" = some (.ref f_is_address)
  b_is_address : Binds K fd_is_address ["value"] []
  f_is_word_list : Addr
  fd_is_word_list : FuncData
  F_is_word_list : Fun K "is_word_list" "is_word_list" s_is_word_list f_is_word_list fd_is_word_list
  g_is_word_list : mg "is_word_list" = some (.ref f_is_word_list)
  b_is_word_list : Binds K fd_is_word_list ["value"] []
  f_need_word : Addr
  fd_need_word : FuncData
  F_need_word : Fun K "need_word" "need_word" s_need_word f_need_word fd_need_word
  g_need_word : mg "need_word" = some (.ref f_need_word)
  b_need_word : Binds K fd_need_word ["value"] []
  f_need_address : Addr
  fd_need_address : FuncData
  F_need_address : Fun K "need_address" "need_address" s_need_address f_need_address fd_need_address
  g_need_address : mg "need_address" = some (.ref f_need_address)
  b_need_address : Binds K fd_need_address ["value"] []
  f_need_bits : Addr
  fd_need_bits : FuncData
  F_need_bits : Fun K "need_bits" "need_bits" s_need_bits f_need_bits fd_need_bits
  g_need_bits : mg "need_bits" = some (.ref f_need_bits)
  b_need_bits : Binds K fd_need_bits ["word", "low", "many"] []
  f_bits : Addr
  fd_bits : FuncData
  F_bits : Fun K "bits" "bits" s_bits f_bits fd_bits
  g_bits : mg "bits" = some (.ref f_bits)
  b_bits : Binds K fd_bits ["word", "low", "many"] []
  f_with_bits : Addr
  fd_with_bits : FuncData
  F_with_bits : Fun K "with_bits" "with_bits" s_with_bits f_with_bits fd_with_bits
  g_with_bits : mg "with_bits" = some (.ref f_with_bits)
  b_with_bits : Binds K fd_with_bits ["word", "low", "many", "value"] []
  f_need_controls : Addr
  fd_need_controls : FuncData
  F_need_controls : Fun K "need_controls" "need_controls" s_need_controls f_need_controls fd_need_controls
  g_need_controls : mg "need_controls" = some (.ref f_need_controls)
  b_need_controls : Binds K fd_need_controls ["value"] []
  f_fresh_controls : Addr
  fd_fresh_controls : FuncData
  F_fresh_controls : Fun K "fresh_controls" "fresh_controls" s_fresh_controls f_fresh_controls fd_fresh_controls
  g_fresh_controls : mg "fresh_controls" = some (.ref f_fresh_controls)
  b_fresh_controls : Binds K fd_fresh_controls [] []
  f_is_supervisor : Addr
  fd_is_supervisor : FuncData
  F_is_supervisor : Fun K "is_supervisor" "is_supervisor" s_is_supervisor f_is_supervisor fd_is_supervisor
  g_is_supervisor : mg "is_supervisor" = some (.ref f_is_supervisor)
  b_is_supervisor : Binds K fd_is_supervisor ["controls"] []
  f_is_on : Addr
  fd_is_on : FuncData
  F_is_on : Fun K "is_on" "is_on" s_is_on f_is_on fd_is_on
  g_is_on : mg "is_on" = some (.ref f_is_on)
  b_is_on : Binds K fd_is_on ["controls"] []
  f_is_paged : Addr
  fd_is_paged : FuncData
  F_is_paged : Fun K "is_paged" "is_paged" s_is_paged f_is_paged fd_is_paged
  g_is_paged : mg "is_paged" = some (.ref f_is_paged)
  b_is_paged : Binds K fd_is_paged ["controls"] []
  kb_is_paged : KBinds K fd_is_paged ["controls"] ["controls"] kwG kwG
  f_entry_address : Addr
  fd_entry_address : FuncData
  F_entry_address : Fun K "entry_address" "entry_address" s_entry_address f_entry_address fd_entry_address
  g_entry_address : mg "entry_address" = some (.ref f_entry_address)
  b_entry_address : Binds K fd_entry_address ["controls"] []
  f_home_address : Addr
  fd_home_address : FuncData
  F_home_address : Fun K "home_address" "home_address" s_home_address f_home_address fd_home_address
  g_home_address : mg "home_address" = some (.ref f_home_address)
  b_home_address : Binds K fd_home_address ["controls"] []
  kb_home_address : KBinds K fd_home_address ["controls"] ["controls"] kwG kwG
  f_root_frame : Addr
  fd_root_frame : FuncData
  F_root_frame : Fun K "root_frame" "root_frame" s_root_frame f_root_frame fd_root_frame
  g_root_frame : mg "root_frame" = some (.ref f_root_frame)
  b_root_frame : Binds K fd_root_frame ["controls"] []
  f_line_mask : Addr
  fd_line_mask : FuncData
  F_line_mask : Fun K "line_mask" "line_mask" s_line_mask f_line_mask fd_line_mask
  g_line_mask : mg "line_mask" = some (.ref f_line_mask)
  b_line_mask : Binds K fd_line_mask ["controls"] []
  f_trapped : Addr
  fd_trapped : FuncData
  F_trapped : Fun K "trapped" "trapped" s_trapped f_trapped fd_trapped
  g_trapped : mg "trapped" = some (.ref f_trapped)
  b_trapped : Binds K fd_trapped ["controls", "cause", "home", "bad"] []
  kp_trapped_0_3210 : KBinds K fd_trapped ["controls", "cause", "home", "bad"] ["bad", "home", "cause", "controls"] (kwP 0 [3, 2, 1, 0]) (kwP 0 [3, 2, 1, 0])
  f_returned : Addr
  fd_returned : FuncData
  F_returned : Fun K "returned" "returned" s_returned f_returned fd_returned
  g_returned : mg "returned" = some (.ref f_returned)
  b_returned : Binds K fd_returned ["controls"] []
  kb_returned : KBinds K fd_returned ["controls"] ["controls"] kwG kwG
  f__status_bit : Addr
  fd__status_bit : FuncData
  F__status_bit : Fun K "_status_bit" "_status_bit" s__status_bit f__status_bit fd__status_bit
  g__status_bit : mg "_status_bit" = some (.ref f__status_bit)
  b__status_bit : Binds K fd__status_bit ["controls", "bit"] []
  f__with_side : Addr
  fd__with_side : FuncData
  F__with_side : Fun K "_with_side" "_with_side" s__with_side f__with_side fd__with_side
  g__with_side : mg "_with_side" = some (.ref f__with_side)
  b__with_side : Binds K fd__with_side ["status", "side"] []
  f_Lpot : Addr
  fd_Lpot : FuncData
  F_Lpot : Fun K "_law_pot" "_law_pot" s_Lpot f_Lpot fd_Lpot
  g_Lpot : mg "_law_pot" = some (.ref f_Lpot)
  b_Lpot : Binds K fd_Lpot ["_law_script", "_law_k"] []
  f_Ldraw : Addr
  fd_Ldraw : FuncData
  F_Ldraw : Fun K "_law_draw" "_law_draw" s_Ldraw f_Ldraw fd_Ldraw
  g_Ldraw : mg "_law_draw" = some (.ref f_Ldraw)
  b_Ldraw : Binds K fd_Ldraw ["_law_pot_here", "_law_size"] []
  f_Lpick : Addr
  fd_Lpick : FuncData
  F_Lpick : Fun K "_law_pick" "_law_pick" s_Lpick f_Lpick fd_Lpick
  g_Lpick : mg "_law_pick" = some (.ref f_Lpick)
  b_Lpick : Binds K fd_Lpick ["_law_pot_here", "_law_some"] []
  f_Lcontrol : Addr
  fd_Lcontrol : FuncData
  F_Lcontrol : Fun K "_law_control" "_law_control" s_Lcontrol f_Lcontrol fd_Lcontrol
  g_Lcontrol : mg "_law_control" = some (.ref f_Lcontrol)
  b_Lcontrol : Binds K fd_Lcontrol ["_law_pot_here"] []
  f_Lbit : Addr
  fd_Lbit : FuncData
  F_Lbit : Fun K "_law_bit" "_law_bit" s_Lbit f_Lbit fd_Lbit
  g_Lbit : mg "_law_bit" = some (.ref f_Lbit)
  b_Lbit : Binds K fd_Lbit ["_law_word", "_law_at"] []
  f_Ltrapped : Addr
  fd_Ltrapped : FuncData
  F_Ltrapped : Fun K "_law_trapped" "_law_trapped" s_Ltrapped f_Ltrapped fd_Ltrapped
  g_Ltrapped : mg "_law_trapped" = some (.ref f_Ltrapped)
  b_Ltrapped : Binds K fd_Ltrapped ["_law_controls", "_law_cause", "_law_home", "_law_bad"] []
  f_Lreturned : Addr
  fd_Lreturned : FuncData
  F_Lreturned : Fun K "_law_returned" "_law_returned" s_Lreturned f_Lreturned fd_Lreturned
  g_Lreturned : mg "_law_returned" = some (.ref f_Lreturned)
  b_Lreturned : Binds K fd_Lreturned ["_law_controls"] []
  f_Lparts_right : Addr
  fd_Lparts_right : FuncData
  F_Lparts_right : Fun K "_law_parts_right" "_law_parts_right" s_Lparts_right f_Lparts_right fd_Lparts_right
  g_Lparts_right : mg "_law_parts_right" = some (.ref f_Lparts_right)
  b_Lparts_right : Binds K fd_Lparts_right ["_law_controls"] []
  f_Lright : Addr
  fd_Lright : FuncData
  F_Lright : Fun K "_law_right" "_law_right" s_Lright f_Lright fd_Lright
  g_Lright : mg "_law_right" = some (.ref f_Lright)
  b_Lright : Binds K fd_Lright ["_law_pot_here"] []
  f_law : Addr
  fd_law : FuncData
  F_law : Fun K "law" "law" s_law f_law fd_law
  g_law : mg "law" = some (.ref f_law)
  b_law : Binds K fd_law ["_law_script"] []
  m_abs : mg "abs" = none
  m_all : mg "all" = none
  m_bool : mg "bool" = none
  m_divmod : mg "divmod" = none
  m_int : mg "int" = none
  m_isinstance : mg "isinstance" = none
  m_len : mg "len" = none
  m_list : mg "list" = none
  m_max : mg "max" = none
  m_range : mg "range" = none
  m_repr : mg "repr" = none
  m_tuple : mg "tuple" = none
  c__GREATEST_CAUSE : ∃ t, mg "_GREATEST_CAUSE" = some (.int 31 t)
  c__WORD_BITS : ∃ t, mg "_WORD_BITS" = some (.int 16 t)
  c_WORDS : ∃ t, mg "WORDS" = some (.int 65536 t)
  c_ADDRESSES : ∃ t, mg "ADDRESSES" = some (.int 4096 t)
  c__CONTROLS : ∃ t, mg "_CONTROLS" = some (.int 8 t)
  c__STATUS : ∃ t, mg "_STATUS" = some (.int 0 t)
  c__CAUSE : ∃ t, mg "_CAUSE" = some (.int 1 t)
  c__HOME : ∃ t, mg "_HOME" = some (.int 2 t)
  c__BAD : ∃ t, mg "_BAD" = some (.int 3 t)
  c__ENTRY : ∃ t, mg "_ENTRY" = some (.int 4 t)
  c__ROOT : ∃ t, mg "_ROOT" = some (.int 5 t)
  c__MASK : ∃ t, mg "_MASK" = some (.int 6 t)
  c__SUPERVISOR_BIT : ∃ t, mg "_SUPERVISOR_BIT" = some (.int 0 t)
  c__ON_BIT : ∃ t, mg "_ON_BIT" = some (.int 1 t)
  c__OLD_BIT : ∃ t, mg "_OLD_BIT" = some (.int 2 t)
  c__SIDE_BITS : ∃ t, mg "_SIDE_BITS" = some (.int 2 t)
  c__PAGED_BIT : ∃ t, mg "_PAGED_BIT" = some (.int 4 t)
  c__FRESH_STATUS : ∃ t, mg "_FRESH_STATUS" = some (.int 1 t)
  c__TRAPPED_SIDE : ∃ t, mg "_TRAPPED_SIDE" = some (.int 1 t)
  c__FRAME_BITS : ∃ t, mg "_FRAME_BITS" = some (.int 6 t)
  c__LINES : ∃ t, mg "_LINES" = some (.int 4 t)
end K41

set_option Elab.async false
set_option linter.all false
set_option maxRecDepth 100000
set_option maxHeartbeats 8000000

namespace K41
open PySem PySem.Spec PyProof.Rows L2 Hx 
local macro_rules | `(tactic| walk_at "sm") => `(tactic| repeat' (first | assumption | apply Hx.Same.upd | exact L2.Same.refl _ | apply same_trans'))
local macro_rules | `(tactic| walk_at "hp") => `(tactic| repeat' (first | assumption | exact upd_same | apply old_upd | apply same_at))
local macro_rules | `(tactic| walk_at "rd") => `(tactic| repeat' (first | rfl | apply Exists.intro | apply And.intro | refine iteT ?_ | refine iteF ?_ | exact upd_same | exact SqL.of (by assumption) | exact SqL.of upd_same | exact SqT.of upd_same | exact SqT.of (by assumption) | ((with_reducible show (_ : Int) < _); omega) | ((with_reducible show (_ : Int) ≤ _); omega) | (show (_ : Prop); assumption) | exact Or.inl ⟨_, by assumption, rfl⟩ | exact Or.inl ⟨rfl, _, SqL.of (by assumption)⟩ | exact Or.inl ⟨rfl, _, SqL.of upd_same⟩ | apply old_upd | apply Hx.SqL.new | apply tyl_new | apply Pot.new | exact same_at (by assumption) (by assumption) | exact Or.inl (SqL.of (by assumption)) | exact Or.inl (by assumption) | exact Or.inl (SqL.of upd_same) | exact size_le (Nat.le_of_ble_eq_true rfl) | exact Nat.le_of_ble_eq_true rfl | exact True.intro | exact Or.inl rfl | exact Or.inr rfl | (show (_ : Prop); omega) | (show (_ : Prop); dsimp only; omega) | exact mulw64 (by omega) (by omega) | exact mulw64 (by (try dsimp only); omega) (by (try dsimp only); omega)))

section
variable {P : Program} {w : World} {K : PySem.W.Frag} {mg : Str → Option Value} {base : Heap}
def sp_is_integer : Sp := fun vs H Q _ => ∃ i : Int, vs = [.int i] ∧ Q (.bl true) H
theorem ok_is_integer (T : Txt K mg) : FnOk P w K mg base CX0 1 T.f_is_integer T.fd_is_integer ["value"] (sp_is_integer) := by
  refine T.F_is_integer.ok sc_is_integer (fun vs H Q E h => ?_) (fun cdv A outer s H vs Q E hr h => ?_)
  · obtain ⟨i, rfl, k⟩ := h; rfl
  · obtain ⟨i, rfl, k⟩ := h
    refine ⟨_, (pss_one (ps_ret (pe_and (pe_callB call_isi (by rfl) T.m_isinstance (by decide +kernel) (pa_cons (pv 0) (pa_cons (pe_bltn (v := .ty "int") (u := .type "int") (by rfl) T.m_int (by decide +kernel) rfl) pa_nil))) (pe_one (pe_not (pe_callB call_isi (by rfl) T.m_isinstance (by decide +kernel) (pa_cons (pv 0) (pa_cons (pe_bltn (v := .ty "bool") (u := .type "bool") (by rfl) T.m_bool (by decide +kernel) rfl) pa_nil)))))))), ?_⟩
    clear hr
    refine ⟨_, rfl, _, _, _, _, true, rfl, .ty _, .base (.int _), kit_ty (by decide +kernel), true, rfl, iteT ?_⟩
    refine ⟨_, rfl, _, _, _, _, false, rfl, .ty _, .base (.int _), kit_ty (by decide +kernel), false, rfl, k⟩
def sp_is_between : Sp := fun vs H Q _ => ∃ i a b : Int, vs = [.int i, .int a, .int b] ∧ Q (.bl (decide (a ≤ i ∧ i ≤ b))) H
theorem ok_is_between (T : Txt K mg) : FnOk P w K mg base CX0 2 T.f_is_between T.fd_is_between ["value", "least", "most"] (sp_is_between) := by
  have G_is_integer := ok_is_integer (P := P) (w := w) (base := base) T
  refine T.F_is_between.ok sc_is_between (fun vs H Q E h => ?_) (fun cdv A outer s H vs Q E hr h => ?_)
  · obtain ⟨i, a, b, rfl, k⟩ := h; rfl
  · obtain ⟨i, a, b, rfl, k⟩ := h
    refine ⟨_, (pss_one (ps_ret (pe_and (pe_call G_is_integer (hr.mono (by decide)) rfl T.g_is_integer T.F_is_integer.kp T.b_is_integer .nil pass0 (pa_cons (pv 0) pa_nil)) (pe_one (pe_chain op_le op_le (pv 1) (pv 0) (pv 2)))))), ?_⟩
    clear G_is_integer
    clear hr
    walk_at "rd"
    refine iteD (fun h1 => ?_) (fun h1 => ?_)
    · walk_at "rd"; exact qbl k (by simp [h1])
    · exact qbl k (by simp [h1])
def sp_is_list (K : PySem.W.Frag) : Sp := fun vs H Q _ => ∃ (a : Addr) (xs : List V), vs = [.ref a] ∧ Sq K H a xs ∧ ∀ H', Same H H' → Q (.bl true) H'
theorem ok_is_list (T : Txt K mg) : FnOk P w K mg base CX0 1 T.f_is_list T.fd_is_list ["value"] (sp_is_list K) := by
  refine T.F_is_list.ok sc_is_list (fun vs H Q E h => ?_) (fun cdv A outer s H vs Q E hr h => ?_)
  · obtain ⟨a, xs, rfl, hs, k⟩ := h; rfl
  · obtain ⟨a, xs, rfl, hs, k⟩ := h
    refine ⟨_, (pss_one (ps_ret (pe_callB call_isiT (by rfl) T.m_isinstance (by decide +kernel) (pa_cons (pv 0) (pa_cons (pe_tup (pa_cons (pe_bltn (v := .ty "list") (u := .type "list") (by rfl) T.m_list (by decide +kernel) rfl) (pa_cons (pe_bltn (v := .ty "tuple") (u := .type "tuple") (by rfl) T.m_tuple (by decide +kernel) rfl) pa_nil))) pa_nil))))), ?_⟩
    clear hr
    walk_at "rd"
    intro tp htp
    rcases hs with h | h
    · exact ⟨_, _, [.ty "list", .ty "tuple"], _, _, true, rfl, upd_same, .cons (.ty _) (.cons (.ty _) .nil), .base (.lst (old_upd htp h)), kitAny_cons (kit_ty (b := "list") (r := true) (by decide +kernel)) (fun z => nomatch z) (fun _ => rfl), k _ (same_upd htp)⟩
    · exact ⟨_, _, [.ty "list", .ty "tuple"], _, _, true, rfl, upd_same, .cons (.ty _) (.cons (.ty _) .nil), .base (.tup (old_upd htp h)), kitAny_cons (kit_ty (b := "list") (r := false) (by decide +kernel)) (fun _ => kitAny_cons (kit_ty (b := "tuple") (r := true) (by decide +kernel)) (fun z => nomatch z) (fun _ => rfl)) (fun z => nomatch z), k _ (same_upd htp)⟩
def sp_need_cause : Sp := fun vs H Q _ => ∃ i : Int, vs = [.int i] ∧ (1 ≤ i ∧ i ≤ 31) ∧ Q .non H
theorem ok_need_cause (T : Txt K mg) : FnOk P w K mg base CX0 3 T.f_need_cause T.fd_need_cause ["value"] (sp_need_cause) := by
  have G_is_between := ok_is_between (P := P) (w := w) (base := base) T
  refine T.F_need_cause.ok sc_need_cause (fun vs H Q E h => ?_) (fun cdv A outer s H vs Q E hr h => ?_)
  · obtain ⟨i, rfl, hi, k⟩ := h; rfl
  · obtain ⟨i, rfl, hi, k⟩ := h
    refine ⟨_, (pss_one (ps_if (pt_not (pt_val (pe_call G_is_between (hr.mono (by decide)) rfl T.g_is_between T.F_is_between.kp T.b_is_between .nil pass0 (pa_cons (pv 0) (pa_cons pe_int (pa_cons (pe_gint rfl T.c__GREATEST_CAUSE) pa_nil))))))
          (pss_one ps_never)
          pss_nil)), ?_⟩
    clear G_is_between
    clear hr
    walk_at "rd"
    refine iteN (fun h => absurd hi h) (fun _ => ?_)
    walk_at "rd"
def sp_is_word : Sp := fun vs H Q _ => ∃ i : Int, vs = [.int i] ∧ (0 ≤ i ∧ i < 65536) ∧ Q (.bl true) H
theorem ok_is_word (T : Txt K mg) : FnOk P w K mg base CX0 3 T.f_is_word T.fd_is_word ["value"] (sp_is_word) := by
  have G_is_between := ok_is_between (P := P) (w := w) (base := base) T
  refine T.F_is_word.ok sc_is_word (fun vs H Q E h => ?_) (fun cdv A outer s H vs Q E hr h => ?_)
  · obtain ⟨i, rfl, hi, k⟩ := h; rfl
  · obtain ⟨i, rfl, hi, k⟩ := h
    refine ⟨_, (pss_one (ps_ret (pe_call G_is_between (hr.mono (by decide)) rfl T.g_is_between T.F_is_between.kp T.b_is_between .nil pass0 (pa_cons (pv 0) (pa_cons pe_int (pa_cons (pe_op op_sub (pe_gint rfl T.c_WORDS) pe_int) pa_nil)))))), ?_⟩
    clear G_is_between
    clear hr
    walk_at "rd"
    exact qbl k (decide_eq_true (by omega))
def sp_is_address : Sp := fun vs H Q _ => ∃ i : Int, vs = [.int i] ∧ (0 ≤ i ∧ i < 4096) ∧ Q (.bl true) H
theorem ok_is_address (T : Txt K mg) : FnOk P w K mg base CX0 3 T.f_is_address T.fd_is_address ["value"] (sp_is_address) := by
  have G_is_between := ok_is_between (P := P) (w := w) (base := base) T
  refine T.F_is_address.ok sc_is_address (fun vs H Q E h => ?_) (fun cdv A outer s H vs Q E hr h => ?_)
  · obtain ⟨i, rfl, hi, k⟩ := h; rfl
  · obtain ⟨i, rfl, hi, k⟩ := h
    refine ⟨_, (pss_one (ps_ret (pe_call G_is_between (hr.mono (by decide)) rfl T.g_is_between T.F_is_between.kp T.b_is_between .nil pass0 (pa_cons (pv 0) (pa_cons pe_int (pa_cons (pe_op op_sub (pe_gint rfl T.c_ADDRESSES) pe_int) pa_nil)))))), ?_⟩
    clear G_is_between
    clear hr
    walk_at "rd"
    exact qbl k (decide_eq_true (by omega))
def Wd (ns : List Int) : Prop := ∀ n ∈ ns, 0 ≤ n ∧ n < 65536
def sp_is_word_list (K : PySem.W.Frag) : Sp := fun vs H Q _ => ∃ (a : Addr) (ns : List Int), vs = [.ref a] ∧ Sq K H a (ns.map V.int) ∧ ns.length ≤ 40 ∧ Wd ns ∧ ∀ H', Same H H' → Q (.bl true) H'
theorem all_true (n : Nat) : (List.replicate n true).all id = true := by induction n <;> simp
theorem ok_is_word_list (T : Txt K mg) : FnOk P w K mg base CX0 4 T.f_is_word_list T.fd_is_word_list ["value"] (sp_is_word_list K) := by
  have G_is_word := ok_is_word (P := P) (w := w) (base := base) T
  have G_is_list := ok_is_list (P := P) (w := w) (base := base) T
  refine T.F_is_word_list.ok sc_is_word_list (fun vs H Q E h => ?_) (fun cdv A outer s H vs Q E hr h => ?_)
  · obtain ⟨a, ns, rfl, hs, hl, hn, k⟩ := h; rfl
  · obtain ⟨a, ns, rfl, hs, hl, hn, k⟩ := h
    refine ⟨_, (pss_one (ps_ret (pe_and (pe_call G_is_list (hr.mono (by decide)) rfl T.g_is_list T.F_is_list.kp T.b_is_list .nil pass0 (pa_cons (pv 0) pa_nil)) (pe_one (pe_callB (cr_all rfl) (by rfl) T.m_all (by decide +kernel) (pa_cons (pe_lc (own := [("one", 1)]) (g := gName 1) (tt := tYes) rfl sc_is_word_list.nd (PI.or (pi_list (pv 0)) (pi_tup (pv 0))) (blkOk_by (N := ["value", "one"]) (sc := defScope s_is_word_list) (by decide +kernel)) (fun _ _ _ _ _ => pg_name (i := 1) sc_is_word_list.nd rfl (Or.inl rfl)) (fun _ _ _ _ _ => pts_nil) (fun _ _ _ _ _ => (pe_call G_is_word (hr.mono (by decide)) rfl T.g_is_word T.F_is_word.kp T.b_is_word .nil pass0 (pa_cons (pv 1) pa_nil)))) pa_nil)))))), ?_⟩
    clear G_is_word G_is_list
    clear hr
    walk_at "rd"
    intro H1 s1
    have h1 := hs.same s1
    walk_at "rd"
    rcases h1 with h1 | h1
    · have hL : SqL K H1 a (ns.map V.int) := SqL.of h1
      refine Or.inl ?_
      walk_at "rd"
      intro D hD
      refine lc_mapS (xs := ns.map V.int) ((List.replicate ns.length true).map V.bl) hL hD (by simp) (by simp; omega) (fun i x y H' Q' hx hy s kq => ?_) (fun H2 s2 e2 => ?_)
      · obtain ⟨z, rfl, hz⟩ := int_get hx
        have hw := hn z (List.mem_of_getElem? hz)
        rw [List.map_replicate] at hy
        obtain rfl := List.eq_of_mem_replicate (List.mem_of_getElem? hy)
        walk_at "rd"
        exact kq _ (L2.Same.refl _)
      · walk_at "rd"
        exact qbl (k H2 (L2.Same.trans s1 s2)) (all_true _)
    · have hL : SqT K H1 a (ns.map V.int) := SqT.of h1
      refine Or.inr ?_
      walk_at "rd"
      intro D hD
      refine lc_mapT (xs := ns.map V.int) ((List.replicate ns.length true).map V.bl) hL hD (by simp) (by simp; omega) (fun i x y H' Q' hx hy s kq => ?_) (fun H2 s2 e2 => ?_)
      · obtain ⟨z, rfl, hz⟩ := int_get hx
        have hw := hn z (List.mem_of_getElem? hz)
        rw [List.map_replicate] at hy
        obtain rfl := List.eq_of_mem_replicate (List.mem_of_getElem? hy)
        walk_at "rd"
        exact kq _ (L2.Same.refl _)
      · walk_at "rd"
        exact qbl (k H2 (L2.Same.trans s1 s2)) (all_true _)
def sp_need_word : Sp := fun vs H Q _ => ∃ i : Int, vs = [.int i] ∧ (0 ≤ i ∧ i < 65536) ∧ Q .non H
theorem ok_need_word (T : Txt K mg) : FnOk P w K mg base CX0 4 T.f_need_word T.fd_need_word ["value"] (sp_need_word) := by
  have G_is_word := ok_is_word (P := P) (w := w) (base := base) T
  refine T.F_need_word.ok sc_need_word (fun vs H Q E h => ?_) (fun cdv A outer s H vs Q E hr h => ?_)
  · obtain ⟨i, rfl, hi, k⟩ := h; rfl
  · obtain ⟨i, rfl, hi, k⟩ := h
    refine ⟨_, (pss_one (ps_if (pt_not (pt_val (pe_call G_is_word (hr.mono (by decide)) rfl T.g_is_word T.F_is_word.kp T.b_is_word .nil pass0 (pa_cons (pv 0) pa_nil))))
          (pss_one ps_never)
          pss_nil)), ?_⟩
    clear G_is_word
    clear hr
    walk_at "rd"
def sp_need_address : Sp := fun vs H Q _ => ∃ i : Int, vs = [.int i] ∧ (0 ≤ i ∧ i < 4096) ∧ Q .non H
theorem ok_need_address (T : Txt K mg) : FnOk P w K mg base CX0 4 T.f_need_address T.fd_need_address ["value"] (sp_need_address) := by
  have G_is_address := ok_is_address (P := P) (w := w) (base := base) T
  refine T.F_need_address.ok sc_need_address (fun vs H Q E h => ?_) (fun cdv A outer s H vs Q E hr h => ?_)
  · obtain ⟨i, rfl, hi, k⟩ := h; rfl
  · obtain ⟨i, rfl, hi, k⟩ := h
    refine ⟨_, (pss_one (ps_if (pt_not (pt_val (pe_call G_is_address (hr.mono (by decide)) rfl T.g_is_address T.F_is_address.kp T.b_is_address .nil pass0 (pa_cons (pv 0) pa_nil))))
          (pss_one ps_never)
          pss_nil)), ?_⟩
    clear G_is_address
    clear hr
    walk_at "rd"
def sp_need_bits : Sp := fun vs H Q _ => ∃ (i : Int) (l m : Nat), vs = [.int i, .int (l : Int), .int (m : Int)] ∧ (0 ≤ i ∧ i < 65536) ∧ l ≤ 15 ∧ 1 ≤ m ∧ l + m ≤ 16 ∧ Q .non H
theorem pow16 {m : Nat} (h : m ≤ 16) : (0 : Int) < 2 ^ m ∧ (2 : Int) ^ m ≤ 65536 := by
  have e : ∀ k : Nat, k ≤ 16 → (0 : Int) < 2 ^ k ∧ (2 : Int) ^ k ≤ 65536 := by decide
  exact e m h
theorem ok_need_bits (T : Txt K mg) : FnOk P w K mg base CX0 5 T.f_need_bits T.fd_need_bits ["word", "low", "many"] (sp_need_bits) := by
  have G_need_word := ok_need_word (P := P) (w := w) (base := base) T
  have G_is_between := ok_is_between (P := P) (w := w) (base := base) T
  refine T.F_need_bits.ok sc_need_bits (fun vs H Q E h => ?_) (fun cdv A outer s H vs Q E hr h => ?_)
  · obtain ⟨i, l, m, rfl, hi, hl, hm, hlm, k⟩ := h; rfl
  · obtain ⟨i, l, m, rfl, hi, hl, hm, hlm, k⟩ := h
    refine ⟨_, (pss_cons (ps_expr (pe_call G_need_word (hr.mono (by decide)) rfl T.g_need_word T.F_need_word.kp T.b_need_word .nil pass0 (pa_cons (pv 0) pa_nil)))
        (pss_cons (ps_if (pt_not (pt_val (pe_call G_is_between (hr.mono (by decide)) rfl T.g_is_between T.F_is_between.kp T.b_is_between .nil pass0 (pa_cons (pv 1) (pa_cons pe_int (pa_cons (pe_op op_sub (pe_gint rfl T.c__WORD_BITS) pe_int) pa_nil))))))
          (pss_one ps_never)
          pss_nil)
        (pss_one (ps_if (pt_not (pt_val (pe_call G_is_between (hr.mono (by decide)) rfl T.g_is_between T.F_is_between.kp T.b_is_between .nil pass0 (pa_cons (pv 2) (pa_cons pe_int (pa_cons (pe_op op_sub (pe_gint rfl T.c__WORD_BITS) (pv 1)) pa_nil))))))
          (pss_one ps_never)
          pss_nil)))), ?_⟩
    clear G_need_word G_is_between
    clear hr
    walk_at "rd"
    refine iteN (fun h => absurd h (fun z => z (by omega))) (fun _ => ?_)
    walk_at "rd"
    refine iteN (fun h => absurd h (fun z => z (by omega))) (fun _ => ?_)
    exact k
def sp_bits : Sp := fun vs H Q _ => ∃ (i : Int) (l m : Nat), vs = [.int i, .int (l : Int), .int (m : Int)] ∧ (0 ≤ i ∧ i < 65536) ∧ l ≤ 15 ∧ 1 ≤ m ∧ l + m ≤ 16 ∧ Q (.int (i / 2 ^ l % 2 ^ m)) H
theorem ok_bits (T : Txt K mg) : FnOk P w K mg base CX0 6 T.f_bits T.fd_bits ["word", "low", "many"] (sp_bits) := by
  have G_need_bits := ok_need_bits (P := P) (w := w) (base := base) T
  refine T.F_bits.ok sc_bits (fun vs H Q E h => ?_) (fun cdv A outer s H vs Q E hr h => ?_)
  · obtain ⟨i, l, m, rfl, hi, hl, hm, hlm, k⟩ := h; rfl
  · obtain ⟨i, l, m, rfl, hi, hl, hm, hlm, k⟩ := h
    refine ⟨_, (pss_cons (ps_expr (pe_call G_need_bits (hr.mono (by decide)) rfl T.g_need_bits T.F_need_bits.kp T.b_need_bits .nil pass0 (pa_cons (pv 0) (pa_cons (pv 1) (pa_cons (pv 2) pa_nil)))))
        (pss_one (ps_ret (pe_op op_mod (pe_op op_shr (pv 0) (pv 1)) (pe_op op_shl pe_int (pv 2)))))), ?_⟩
    clear G_need_bits
    clear hr
    have pm := pow16 (show m ≤ 16 by omega)
    walk_at "rd"
    · simp only [Int.one_mul, Int.toNat_natCast]; omega
    · exact qint k (by simp only [Int.one_mul, Int.toNat_natCast])
def sp_with_bits : Sp := fun vs H Q _ => ∃ (i : Int) (l m : Nat) (v : Int), vs = [.int i, .int (l : Int), .int (m : Int), .int v] ∧ (0 ≤ i ∧ i < 65536) ∧ l ≤ 15 ∧ 1 ≤ m ∧ l + m ≤ 16 ∧ (0 ≤ v ∧ v < 2 ^ m) ∧ Q (.int (i + (v - i / 2 ^ l % 2 ^ m) * 2 ^ l)) H
theorem ok_with_bits (T : Txt K mg) : FnOk P w K mg base CX0 7 T.f_with_bits T.fd_with_bits ["word", "low", "many", "value"] (sp_with_bits) := by
  have G_need_bits := ok_need_bits (P := P) (w := w) (base := base) T
  have G_is_between := ok_is_between (P := P) (w := w) (base := base) T
  have G_bits := ok_bits (P := P) (w := w) (base := base) T
  refine T.F_with_bits.ok sc_with_bits (fun vs H Q E h => ?_) (fun cdv A outer s H vs Q E hr h => ?_)
  · obtain ⟨i, l, m, v, rfl, hi, hl, hm, hlm, hv, k⟩ := h; rfl
  · obtain ⟨i, l, m, v, rfl, hi, hl, hm, hlm, hv, k⟩ := h
    refine ⟨_, (pss_cons (ps_expr (pe_call G_need_bits (hr.mono (by decide)) rfl T.g_need_bits T.F_need_bits.kp T.b_need_bits .nil pass0 (pa_cons (pv 0) (pa_cons (pv 1) (pa_cons (pv 2) pa_nil)))))
        (pss_cons (ps_if (pt_not (pt_val (pe_call G_is_between (hr.mono (by decide)) rfl T.g_is_between T.F_is_between.kp T.b_is_between .nil pass0 (pa_cons (pv 3) (pa_cons pe_int (pa_cons (pe_op op_sub (pe_op op_shl pe_int (pv 2)) pe_int) pa_nil))))))
          (pss_one ps_never)
          pss_nil)
        (pss_one (ps_ret (pe_op op_add (pv 0) (pe_op op_shl (pe_op op_sub (pv 3) (pe_call G_bits (hr.mono (by decide)) rfl T.g_bits T.F_bits.kp T.b_bits .nil pass0 (pa_cons (pv 0) (pa_cons (pv 1) (pa_cons (pv 2) pa_nil))))) (pv 1))))))), ?_⟩
    clear G_need_bits G_is_between G_bits
    clear hr
    have pm := pow16 (show m ≤ 16 by omega)
    walk_at "rd"
    refine iteN (fun h => absurd h (fun z => z (by simp only [Int.one_mul, Int.toNat_natCast]; omega))) (fun _ => ?_)
    have b0 := Int.emod_nonneg (i / 2 ^ l) (show (2 : Int) ^ m ≠ 0 by omega)
    have b1 := Int.emod_lt_of_pos (i / 2 ^ l) pm.1
    walk_at "rd"
structure Ctl (ns : List Int) : Prop where
  len : ns.length = 8
  wd : Wd ns
theorem Ctl.ex {ns : List Int} (h : Ctl ns) : ∃ n0 n1 n2 n3 n4 n5 n6 n7 : Int, ns = [n0, n1, n2, n3, n4, n5, n6, n7] ∧ (0 ≤ n0 ∧ n0 < 65536) ∧ (0 ≤ n1 ∧ n1 < 65536) ∧ (0 ≤ n2 ∧ n2 < 65536) ∧ (0 ≤ n3 ∧ n3 < 65536) ∧ (0 ≤ n4 ∧ n4 < 65536) ∧ (0 ≤ n5 ∧ n5 < 65536) ∧ (0 ≤ n6 ∧ n6 < 65536) ∧ (0 ≤ n7 ∧ n7 < 65536) := by
  obtain ⟨l, w⟩ := h
  match ns, l, w with
  | [n0, n1, n2, n3, n4, n5, n6, n7], _, w => exact ⟨n0, n1, n2, n3, n4, n5, n6, n7, rfl, w _ (by simp), w _ (by simp), w _ (by simp), w _ (by simp), w _ (by simp), w _ (by simp), w _ (by simp), w _ (by simp)⟩
theorem ctl_mk {n0 n1 n2 n3 n4 n5 n6 n7 : Int} (h : (0 ≤ n0 ∧ n0 < 65536) ∧ (0 ≤ n1 ∧ n1 < 65536) ∧ (0 ≤ n2 ∧ n2 < 65536) ∧ (0 ≤ n3 ∧ n3 < 65536) ∧ (0 ≤ n4 ∧ n4 < 65536) ∧ (0 ≤ n5 ∧ n5 < 65536) ∧ (0 ≤ n6 ∧ n6 < 65536) ∧ (0 ≤ n7 ∧ n7 < 65536)) : Ctl [n0, n1, n2, n3, n4, n5, n6, n7] := ⟨rfl, fun n hn => by
  simp only [List.mem_cons, List.not_mem_nil, or_false] at hn
  rcases hn with rfl | rfl | rfl | rfl | rfl | rfl | rfl | rfl <;> omega⟩
def sp_need_controls (K : PySem.W.Frag) : Sp := fun vs H Q _ => ∃ (a : Addr) (ns : List Int), vs = [.ref a] ∧ Sq K H a (ns.map V.int) ∧ Ctl ns ∧ ∀ H', Same H H' → Q .non H'
theorem ok_need_controls (T : Txt K mg) : FnOk P w K mg base CX0 5 T.f_need_controls T.fd_need_controls ["value"] (sp_need_controls K) := by
  have G_is_word_list := ok_is_word_list (P := P) (w := w) (base := base) T
  have G_is_list := ok_is_list (P := P) (w := w) (base := base) T
  refine T.F_need_controls.ok sc_need_controls (fun vs H Q E h => ?_) (fun cdv A outer s H vs Q E hr h => ?_)
  · obtain ⟨a, ns, rfl, hs, hc, k⟩ := h; rfl
  · obtain ⟨a, ns, rfl, hs, hc, k⟩ := h
    refine ⟨_, (pss_one (ps_if (pt_not (PW.pt (pw_and (pt_val (pe_call G_is_list (hr.mono (by decide)) rfl T.g_is_list T.F_is_list.kp T.b_is_list .nil pass0 (pa_cons (pv 0) pa_nil))) (pw_and (pt_cmpR op_eq (pe_callB call_len_seq (by rfl) T.m_len (by decide +kernel) (pa_cons (pv 0) pa_nil)) (pe_gint rfl T.c__CONTROLS) (nomark _)) (pw_and1 (pt_val (pe_call G_is_word_list (hr.mono (by decide)) rfl T.g_is_word_list T.F_is_word_list.kp T.b_is_word_list .nil pass0 (pa_cons (pv 0) pa_nil))))))))
          (pss_one ps_never)
          pss_nil)), ?_⟩
    clear G_is_word_list G_is_list
    clear hr
    have hw := hc.wd
    have hlen := hc.len
    walk_at "rd"
    intro H1 s1
    have hs1 := hs.same s1
    have ho := hs1.or
    walk_at "rd"
    refine iteD (fun _ => ?_) (fun h => absurd (by rw [List.length_map, hlen]; rfl) h)
    walk_at "rd"
    intro H2 s2
    have q := k H2 (L2.Same.trans s1 s2)
    walk_at "rd"
def sb (ns : List Int) (b : Nat) : Bool := decide (ns.headD 0 / 2 ^ b % 2 = 1)
def sp_status_bit (K : PySem.W.Frag) : Sp := fun vs H Q _ => ∃ (a : Addr) (ns : List Int) (b : Nat), vs = [.ref a, .int (b : Int)] ∧ Sq K H a (ns.map V.int) ∧ Ctl ns ∧ b ≤ 15 ∧ ∀ H', Same H H' → Q (.bl (sb ns b)) H'
theorem ok__status_bit (T : Txt K mg) : FnOk P w K mg base CX0 7 T.f__status_bit T.fd__status_bit ["controls", "bit"] (sp_status_bit K) := by
  have G_need_controls := ok_need_controls (P := P) (w := w) (base := base) T
  have G_bits := ok_bits (P := P) (w := w) (base := base) T
  refine T.F__status_bit.ok sc__status_bit (fun vs H Q E h => ?_) (fun cdv A outer s H vs Q E hr h => ?_)
  · obtain ⟨a, ns, b, rfl, hs, hc, hb, k⟩ := h; rfl
  · obtain ⟨a, ns, b, rfl, hs, hc, hb, k⟩ := h
    refine ⟨_, (pss_cons (ps_expr (pe_call G_need_controls (hr.mono (by decide)) rfl T.g_need_controls T.F_need_controls.kp T.b_need_controls .nil pass0 (pa_cons (pv 0) pa_nil)))
        (pss_one (ps_ret (pe_cmpR op_eq (pe_call G_bits (hr.mono (by decide)) rfl T.g_bits T.F_bits.kp T.b_bits .nil pass0 (pa_cons (pe_ix ix_both (pv 0) (pe_gint rfl T.c__STATUS) (fun _ _ => rfl)) (pa_cons (pv 1) (pa_cons pe_int pa_nil)))) pe_int (nomark _))))), ?_⟩
    clear G_need_controls G_bits
    clear hr
    obtain ⟨n0, n1, n2, n3, n4, n5, n6, n7, rfl, w0, w1, w2, w3, w4, w5, w6, w7⟩ := id hc.ex
    walk_at "rd"
    intro H1 s1
    have hs1 := hs.same s1
    have a0 : atI ([n0, n1, n2, n3, n4, n5, n6, n7].map V.int) 0 = some (.int n0) := at_of (j := 0) (by omega) rfl
    walk_at "rd"
    exact qbl (k _ s1) (by simp [sb])
def sp_with_side : Sp := fun vs H Q _ => ∃ (i v : Int), vs = [.int i, .int v] ∧ (0 ≤ i ∧ i < 65536) ∧ (0 ≤ v ∧ v < 4) ∧ Q (.int (i + (v - i % 4))) H
theorem ok__with_side (T : Txt K mg) : FnOk P w K mg base CX0 8 T.f__with_side T.fd__with_side ["status", "side"] (sp_with_side) := by
  have G_with_bits := ok_with_bits (P := P) (w := w) (base := base) T
  refine T.F__with_side.ok sc__with_side (fun vs H Q E h => ?_) (fun cdv A outer s H vs Q E hr h => ?_)
  · obtain ⟨i, v, rfl, hi, hv, k⟩ := h; rfl
  · obtain ⟨i, v, rfl, hi, hv, k⟩ := h
    refine ⟨_, (pss_one (ps_ret (pe_call G_with_bits (hr.mono (by decide)) rfl T.g_with_bits T.F_with_bits.kp T.b_with_bits .nil pass0 (pa_cons (pv 0) (pa_cons (pe_gint rfl T.c__SUPERVISOR_BIT) (pa_cons (pe_gint rfl T.c__SIDE_BITS) (pa_cons (pv 1) pa_nil))))))), ?_⟩
    clear G_with_bits
    clear hr
    have hv2 : 0 ≤ v ∧ v < 2 ^ 2 := ⟨hv.1, by simpa using hv.2⟩
    walk_at "rd"
    exact qint k (by simp)
def sp_fresh : Sp := fun vs H Q _ => vs = [] ∧ ∀ (t : Addr) (H' : Hp), H t = none → H' t = some (.lst ([1, 0, 0, 0, 0, 0, 0, 0].map V.int)) → Same H H' → Q (.ref t) H'
theorem ok_fresh_controls (T : Txt K mg) : FnOk P w K mg base CX0 1 T.f_fresh_controls T.fd_fresh_controls [] (sp_fresh) := by
  refine T.F_fresh_controls.ok sc_fresh_controls (fun vs H Q E h => ?_) (fun cdv A outer s H vs Q E hr h => ?_)
  · obtain ⟨rfl, k⟩ := h; rfl
  · obtain ⟨rfl, k⟩ := h
    refine ⟨_, (pss_one (ps_ret (pe_op op_cat (pe_lst (pa_cons (pe_gint rfl T.c__FRESH_STATUS) pa_nil)) (pe_op op_rep (pe_lst (pa_cons pe_int pa_nil)) (pe_op op_sub (pe_gint rfl T.c__CONTROLS) pe_int))))), ?_⟩
    clear hr
    walk_at "rd"
    intro o1 f1
    walk_at "rd"
    intro o2 f2
    walk_at "rd"
    intro o3 f3
    walk_at "rd"
    intro t ft
    have sm := Hx.Same.upd (o := .lst (List.replicate (8 - 1 : Int).toNat [V.int 0]).flatten) (Hx.Same.upd (o := .lst [V.int 0]) (same_upd (o := .lst [V.int 1]) f1) f2) f3
    exact k t _ (sm.free ft) upd_same (Hx.Same.upd sm ft)
def sp_flag (K : PySem.W.Frag) (b : Nat) : Sp := fun vs H Q _ => ∃ (a : Addr) (ns : List Int), vs = [.ref a] ∧ Sq K H a (ns.map V.int) ∧ Ctl ns ∧ ∀ H', Same H H' → Q (.bl (sb ns b)) H'
theorem ok_is_supervisor (T : Txt K mg) : FnOk P w K mg base CX0 8 T.f_is_supervisor T.fd_is_supervisor ["controls"] (sp_flag K 0) := by
  have G__status_bit := ok__status_bit (P := P) (w := w) (base := base) T
  refine T.F_is_supervisor.ok sc_is_supervisor (fun vs H Q E h => ?_) (fun cdv A outer s H vs Q E hr h => ?_)
  · obtain ⟨a, ns, rfl, hs, hc, k⟩ := h; rfl
  · obtain ⟨a, ns, rfl, hs, hc, k⟩ := h
    refine ⟨_, (pss_one (ps_ret (pe_call G__status_bit (hr.mono (by decide)) rfl T.g__status_bit T.F__status_bit.kp T.b__status_bit .nil pass0 (pa_cons (pv 0) (pa_cons (pe_gint rfl T.c__SUPERVISOR_BIT) pa_nil))))), ?_⟩
    clear G__status_bit
    clear hr
    walk_at "rd"

theorem ok_is_on (T : Txt K mg) : FnOk P w K mg base CX0 8 T.f_is_on T.fd_is_on ["controls"] (sp_flag K 1) := by
  have G__status_bit := ok__status_bit (P := P) (w := w) (base := base) T
  refine T.F_is_on.ok sc_is_on (fun vs H Q E h => ?_) (fun cdv A outer s H vs Q E hr h => ?_)
  · obtain ⟨a, ns, rfl, hs, hc, k⟩ := h; rfl
  · obtain ⟨a, ns, rfl, hs, hc, k⟩ := h
    refine ⟨_, (pss_one (ps_ret (pe_call G__status_bit (hr.mono (by decide)) rfl T.g__status_bit T.F__status_bit.kp T.b__status_bit .nil pass0 (pa_cons (pv 0) (pa_cons (pe_gint rfl T.c__ON_BIT) pa_nil))))), ?_⟩
    clear G__status_bit
    clear hr
    walk_at "rd"

theorem ok_is_paged (T : Txt K mg) : FnOk P w K mg base CX0 8 T.f_is_paged T.fd_is_paged ["controls"] (sp_flag K 4) := by
  have G__status_bit := ok__status_bit (P := P) (w := w) (base := base) T
  refine T.F_is_paged.ok sc_is_paged (fun vs H Q E h => ?_) (fun cdv A outer s H vs Q E hr h => ?_)
  · obtain ⟨a, ns, rfl, hs, hc, k⟩ := h; rfl
  · obtain ⟨a, ns, rfl, hs, hc, k⟩ := h
    refine ⟨_, (pss_one (ps_ret (pe_call G__status_bit (hr.mono (by decide)) rfl T.g__status_bit T.F__status_bit.kp T.b__status_bit .nil pass0 (pa_cons (pv 0) (pa_cons (pe_gint rfl T.c__PAGED_BIT) pa_nil))))), ?_⟩
    clear G__status_bit
    clear hr
    walk_at "rd"
def sp_part (K : PySem.W.Frag) (f : List Int → Int) : Sp := fun vs H Q _ => ∃ (a : Addr) (ns : List Int), vs = [.ref a] ∧ Sq K H a (ns.map V.int) ∧ Ctl ns ∧ ∀ H', Same H H' → Q (.int (f ns)) H'
theorem ok_entry_address (T : Txt K mg) : FnOk P w K mg base CX0 6 T.f_entry_address T.fd_entry_address ["controls"] (sp_part K (fun ns => ns.getD 4 0 % 4096)) := by
  have G_need_controls := ok_need_controls (P := P) (w := w) (base := base) T
  refine T.F_entry_address.ok sc_entry_address (fun vs H Q E h => ?_) (fun cdv A outer s H vs Q E hr h => ?_)
  · obtain ⟨a, ns, rfl, hs, hc, k⟩ := h; rfl
  · obtain ⟨a, ns, rfl, hs, hc, k⟩ := h
    refine ⟨_, (pss_cons (ps_expr (pe_call G_need_controls (hr.mono (by decide)) rfl T.g_need_controls T.F_need_controls.kp T.b_need_controls .nil pass0 (pa_cons (pv 0) pa_nil)))
        (pss_one (ps_ret (pe_op op_mod (pe_ix ix_both (pv 0) (pe_gint rfl T.c__ENTRY) (fun _ _ => rfl)) (pe_gint rfl T.c_ADDRESSES))))), ?_⟩
    clear G_need_controls
    clear hr
    obtain ⟨n0, n1, n2, n3, n4, n5, n6, n7, rfl, w0, w1, w2, w3, w4, w5, w6, w7⟩ := id hc.ex
    walk_at "rd"
    intro H1 s1
    have hs1 := hs.same s1
    have a4 : atI ([n0, n1, n2, n3, n4, n5, n6, n7].map V.int) 4 = some (.int n4) := at_of (j := 4) (by omega) rfl
    have q := k _ s1
    walk_at "rd"

theorem ok_home_address (T : Txt K mg) : FnOk P w K mg base CX0 6 T.f_home_address T.fd_home_address ["controls"] (sp_part K (fun ns => ns.getD 2 0 % 4096)) := by
  have G_need_controls := ok_need_controls (P := P) (w := w) (base := base) T
  refine T.F_home_address.ok sc_home_address (fun vs H Q E h => ?_) (fun cdv A outer s H vs Q E hr h => ?_)
  · obtain ⟨a, ns, rfl, hs, hc, k⟩ := h; rfl
  · obtain ⟨a, ns, rfl, hs, hc, k⟩ := h
    refine ⟨_, (pss_cons (ps_expr (pe_call G_need_controls (hr.mono (by decide)) rfl T.g_need_controls T.F_need_controls.kp T.b_need_controls .nil pass0 (pa_cons (pv 0) pa_nil)))
        (pss_one (ps_ret (pe_op op_mod (pe_ix ix_both (pv 0) (pe_gint rfl T.c__HOME) (fun _ _ => rfl)) (pe_gint rfl T.c_ADDRESSES))))), ?_⟩
    clear G_need_controls
    clear hr
    obtain ⟨n0, n1, n2, n3, n4, n5, n6, n7, rfl, w0, w1, w2, w3, w4, w5, w6, w7⟩ := id hc.ex
    walk_at "rd"
    intro H1 s1
    have hs1 := hs.same s1
    have a2 : atI ([n0, n1, n2, n3, n4, n5, n6, n7].map V.int) 2 = some (.int n2) := at_of (j := 2) (by omega) rfl
    have q := k _ s1
    walk_at "rd"

theorem ok_root_frame (T : Txt K mg) : FnOk P w K mg base CX0 7 T.f_root_frame T.fd_root_frame ["controls"] (sp_part K (fun ns => ns.getD 5 0 % 64)) := by
  have G_need_controls := ok_need_controls (P := P) (w := w) (base := base) T
  have G_bits := ok_bits (P := P) (w := w) (base := base) T
  refine T.F_root_frame.ok sc_root_frame (fun vs H Q E h => ?_) (fun cdv A outer s H vs Q E hr h => ?_)
  · obtain ⟨a, ns, rfl, hs, hc, k⟩ := h; rfl
  · obtain ⟨a, ns, rfl, hs, hc, k⟩ := h
    refine ⟨_, (pss_cons (ps_expr (pe_call G_need_controls (hr.mono (by decide)) rfl T.g_need_controls T.F_need_controls.kp T.b_need_controls .nil pass0 (pa_cons (pv 0) pa_nil)))
        (pss_one (ps_ret (pe_call G_bits (hr.mono (by decide)) rfl T.g_bits T.F_bits.kp T.b_bits .nil pass0 (pa_cons (pe_ix ix_both (pv 0) (pe_gint rfl T.c__ROOT) (fun _ _ => rfl)) (pa_cons pe_int (pa_cons (pe_gint rfl T.c__FRAME_BITS) pa_nil))))))), ?_⟩
    clear G_need_controls G_bits
    clear hr
    obtain ⟨n0, n1, n2, n3, n4, n5, n6, n7, rfl, w0, w1, w2, w3, w4, w5, w6, w7⟩ := id hc.ex
    walk_at "rd"
    intro H1 s1
    have hs1 := hs.same s1
    have a5 : atI ([n0, n1, n2, n3, n4, n5, n6, n7].map V.int) 5 = some (.int n5) := at_of (j := 5) (by omega) rfl
    walk_at "rd"
    exact qint (k _ s1) (by simp)

theorem ok_line_mask (T : Txt K mg) : FnOk P w K mg base CX0 7 T.f_line_mask T.fd_line_mask ["controls"] (sp_part K (fun ns => ns.getD 6 0 % 16)) := by
  have G_need_controls := ok_need_controls (P := P) (w := w) (base := base) T
  have G_bits := ok_bits (P := P) (w := w) (base := base) T
  refine T.F_line_mask.ok sc_line_mask (fun vs H Q E h => ?_) (fun cdv A outer s H vs Q E hr h => ?_)
  · obtain ⟨a, ns, rfl, hs, hc, k⟩ := h; rfl
  · obtain ⟨a, ns, rfl, hs, hc, k⟩ := h
    refine ⟨_, (pss_cons (ps_expr (pe_call G_need_controls (hr.mono (by decide)) rfl T.g_need_controls T.F_need_controls.kp T.b_need_controls .nil pass0 (pa_cons (pv 0) pa_nil)))
        (pss_one (ps_ret (pe_call G_bits (hr.mono (by decide)) rfl T.g_bits T.F_bits.kp T.b_bits .nil pass0 (pa_cons (pe_ix ix_both (pv 0) (pe_gint rfl T.c__MASK) (fun _ _ => rfl)) (pa_cons pe_int (pa_cons (pe_gint rfl T.c__LINES) pa_nil))))))), ?_⟩
    clear G_need_controls G_bits
    clear hr
    obtain ⟨n0, n1, n2, n3, n4, n5, n6, n7, rfl, w0, w1, w2, w3, w4, w5, w6, w7⟩ := id hc.ex
    walk_at "rd"
    intro H1 s1
    have hs1 := hs.same s1
    have a6 : atI ([n0, n1, n2, n3, n4, n5, n6, n7].map V.int) 6 = some (.int n6) := at_of (j := 6) (by omega) rfl
    walk_at "rd"
    exact qint (k _ s1) (by simp)
def trp (ns : List Int) (c h b : Int) : List Int := (ns.headD 0 - ns.headD 0 % 16 + 1 + 4 * (ns.headD 0 % 2) + 8 * (ns.headD 0 / 2 % 2)) :: c :: h :: b :: ns.drop 4
theorem trp_eq (n : Int) : n + (n % 4 - n / 4 % 4) * 4 + (1 - (n + (n % 4 - n / 4 % 4) * 4) % 4) = n - n % 16 + 1 + 4 * (n % 2) + 8 * (n / 2 % 2) := by
  have e1 : (n + (n % 4 - n / 4 % 4) * 4) % 4 = n % 4 := by omega
  rw [e1]
  have e2 : n % 4 = n % 2 + 2 * (n / 2 % 2) := by omega
  have e3 : n % 16 = n % 4 + 4 * (n / 4 % 4) := by omega
  omega
def sp_trapped (K : PySem.W.Frag) : Sp := fun vs H Q _ => ∃ (a : Addr) (ns : List Int) (c h b : Int), vs = [.ref a, .int c, .int h, .int b] ∧ Sq K H a (ns.map V.int) ∧ Ctl ns ∧ (1 ≤ c ∧ c ≤ 31) ∧ (0 ≤ h ∧ h < 4096) ∧ (0 ≤ b ∧ b < 4096) ∧
  ∀ (t : Addr) (H' : Hp), H t = none → H' t = some (.lst ((trp ns c h b).map V.int)) → Same H H' → Q (.ref t) H'
theorem ok_trapped (T : Txt K mg) : FnOk P w K mg base CX0 9 T.f_trapped T.fd_trapped ["controls", "cause", "home", "bad"] (sp_trapped K) := by
  have G_need_controls := ok_need_controls (P := P) (w := w) (base := base) T
  have G_need_cause := ok_need_cause (P := P) (w := w) (base := base) T
  have G_need_address := ok_need_address (P := P) (w := w) (base := base) T
  have G_bits := ok_bits (P := P) (w := w) (base := base) T
  have G__with_side := ok__with_side (P := P) (w := w) (base := base) T
  have G_with_bits := ok_with_bits (P := P) (w := w) (base := base) T
  refine T.F_trapped.ok sc_trapped (fun vs H Q E h => ?_) (fun cdv A outer s H vs Q E hr h => ?_)
  · obtain ⟨a, ns, c, h, b, rfl, hs, hc, hcc, hh, hb, k⟩ := h; rfl
  · obtain ⟨a, ns, c, h, b, rfl, hs, hc, hcc, hh, hb, k⟩ := h
    refine ⟨_, (pss_cons (ps_expr (pe_call G_need_controls (hr.mono (by decide)) rfl T.g_need_controls T.F_need_controls.kp T.b_need_controls .nil pass0 (pa_cons (pv 0) pa_nil)))
        (pss_cons (ps_expr (pe_call G_need_cause (hr.mono (by decide)) rfl T.g_need_cause T.F_need_cause.kp T.b_need_cause .nil pass0 (pa_cons (pv 1) pa_nil)))
        (pss_cons (ps_expr (pe_call G_need_address (hr.mono (by decide)) rfl T.g_need_address T.F_need_address.kp T.b_need_address .nil pass0 (pa_cons (pv 2) pa_nil)))
        (pss_cons (ps_expr (pe_call G_need_address (hr.mono (by decide)) rfl T.g_need_address T.F_need_address.kp T.b_need_address .nil pass0 (pa_cons (pv 3) pa_nil)))
        (pss_cons (ps_set (i := 4) sc_trapped.nd rfl (Or.inl rfl) (pe_callTy call_list_of (by rfl) T.m_list (by decide +kernel) (pa_cons (pv 0) pa_nil)))
        (pss_cons (ps_set (i := 5) sc_trapped.nd rfl (Or.inl rfl) (pe_call G_bits (hr.mono (by decide)) rfl T.g_bits T.F_bits.kp T.b_bits .nil pass0 (pa_cons (pe_ix ix_both (pv 0) (pe_gint rfl T.c__STATUS) (fun _ _ => rfl)) (pa_cons (pe_gint rfl T.c__SUPERVISOR_BIT) (pa_cons (pe_gint rfl T.c__SIDE_BITS) pa_nil)))))
        (pss_cons (ps_asg (pe_call G__with_side (hr.mono (by decide)) rfl T.g__with_side T.F__with_side.kp T.b__with_side .nil pass0 (pa_cons (pe_call G_with_bits (hr.mono (by decide)) rfl T.g_with_bits T.F_with_bits.kp T.b_with_bits .nil pass0 (pa_cons (pe_ix ix_both (pv 0) (pe_gint rfl T.c__STATUS) (fun _ _ => rfl)) (pa_cons (pe_gint rfl T.c__OLD_BIT) (pa_cons (pe_gint rfl T.c__SIDE_BITS) (pa_cons (pv 5) pa_nil))))) (pa_cons (pe_gint rfl T.c__TRAPPED_SIDE) pa_nil))) (pg_sub (pv 4) (pe_gint rfl T.c__STATUS) set_list))
        (pss_cons (ps_asg (pv 1) (pg_sub (pv 4) (pe_gint rfl T.c__CAUSE) set_list))
        (pss_cons (ps_asg (pv 2) (pg_sub (pv 4) (pe_gint rfl T.c__HOME) set_list))
        (pss_cons (ps_asg (pv 3) (pg_sub (pv 4) (pe_gint rfl T.c__BAD) set_list))
        (pss_one (ps_ret (pv 4))))))))))))), ?_⟩
    clear G_need_controls G_need_cause G_need_address G_bits G__with_side G_with_bits
    clear hr
    obtain ⟨n0, n1, n2, n3, n4, n5, n6, n7, rfl, w0, w1, w2, w3, w4, w5, w6, w7⟩ := id hc.ex
    walk_at "rd"
    intro H1 s1
    have hs1 := hs.same s1
    have ho1 := hs1.or
    have a0 : atI ([n0, n1, n2, n3, n4, n5, n6, n7].map V.int) 0 = some (.int n0) := at_of (j := 0) (by omega) rfl
    walk_at "rd"
    intro t ht
    have hs2 := hs1.same (same_upd (o := .lst ([n0, n1, n2, n3, n4, n5, n6, n7].map V.int)) ht)
    walk_at "rd"
    have n := s1.free ht
    refine k t _ n ?_ (same_set (same_set (same_set (same_set (same_set s1 n) n) n) n) n)
    rw [upd_same]
    have z0 : n0 / 2 ^ 0 % 2 ^ 2 = n0 % 4 := by omega
    have z2 : n0 / 2 ^ 2 % 2 ^ 2 = n0 / 4 % 4 := by omega
    have z4 : (2 : Int) ^ 2 = 4 := by decide
    rw [z0, z2, z4, trp_eq]; rfl
def rtd (ns : List Int) : List Int := (ns.headD 0 - ns.headD 0 % 4 + ns.headD 0 / 4 % 4) :: ns.drop 1
def sp_returned (K : PySem.W.Frag) : Sp := fun vs H Q _ => ∃ (a : Addr) (ns : List Int), vs = [.ref a] ∧ Sq K H a (ns.map V.int) ∧ Ctl ns ∧
  ∀ (t : Addr) (H' : Hp), H t = none → H' t = some (.lst ((rtd ns).map V.int)) → Same H H' → Q (.ref t) H'
theorem ok_returned (T : Txt K mg) : FnOk P w K mg base CX0 9 T.f_returned T.fd_returned ["controls"] (sp_returned K) := by
  have G_need_controls := ok_need_controls (P := P) (w := w) (base := base) T
  have G__with_side := ok__with_side (P := P) (w := w) (base := base) T
  have G_bits := ok_bits (P := P) (w := w) (base := base) T
  refine T.F_returned.ok sc_returned (fun vs H Q E h => ?_) (fun cdv A outer s H vs Q E hr h => ?_)
  · obtain ⟨a, ns, rfl, hs, hc, k⟩ := h; rfl
  · obtain ⟨a, ns, rfl, hs, hc, k⟩ := h
    refine ⟨_, (pss_cons (ps_expr (pe_call G_need_controls (hr.mono (by decide)) rfl T.g_need_controls T.F_need_controls.kp T.b_need_controls .nil pass0 (pa_cons (pv 0) pa_nil)))
        (pss_cons (ps_set (i := 1) sc_returned.nd rfl (Or.inl rfl) (pe_callTy call_list_of (by rfl) T.m_list (by decide +kernel) (pa_cons (pv 0) pa_nil)))
        (pss_cons (ps_asg (pe_call G__with_side (hr.mono (by decide)) rfl T.g__with_side T.F__with_side.kp T.b__with_side .nil pass0 (pa_cons (pe_ix ix_both (pv 0) (pe_gint rfl T.c__STATUS) (fun _ _ => rfl)) (pa_cons (pe_call G_bits (hr.mono (by decide)) rfl T.g_bits T.F_bits.kp T.b_bits .nil pass0 (pa_cons (pe_ix ix_both (pv 0) (pe_gint rfl T.c__STATUS) (fun _ _ => rfl)) (pa_cons (pe_gint rfl T.c__OLD_BIT) (pa_cons (pe_gint rfl T.c__SIDE_BITS) pa_nil)))) pa_nil))) (pg_sub (pv 1) (pe_gint rfl T.c__STATUS) set_list))
        (pss_one (ps_ret (pv 1)))))), ?_⟩
    clear G_need_controls G__with_side G_bits
    clear hr
    obtain ⟨n0, n1, n2, n3, n4, n5, n6, n7, rfl, w0, w1, w2, w3, w4, w5, w6, w7⟩ := id hc.ex
    walk_at "rd"
    intro H1 s1
    have hs1 := hs.same s1
    have ho1 := hs1.or
    have a0 : atI ([n0, n1, n2, n3, n4, n5, n6, n7].map V.int) 0 = some (.int n0) := at_of (j := 0) (by omega) rfl
    walk_at "rd"
    intro t ht
    have hs2 := hs1.same (same_upd (o := .lst ([n0, n1, n2, n3, n4, n5, n6, n7].map V.int)) ht)
    walk_at "rd"
    have n := s1.free ht
    refine k t _ n ?_ (same_set (same_set s1 n) n)
    rw [upd_same]
    have e : n0 + (n0 / 2 ^ 2 % 2 ^ 2 - n0 % 4) = n0 - n0 % 4 + n0 / 4 % 4 := by omega
    rw [e]; rfl
end
end K41

set_option Elab.async false
set_option linter.all false
set_option maxRecDepth 100000
set_option maxHeartbeats 8000000

namespace K41
open PySem PySem.Spec PyProof.Rows L2 Hx 
local macro_rules | `(tactic| walk_at "sm") => `(tactic| repeat' (first | assumption | apply Hx.Same.upd | exact L2.Same.refl _ | apply same_trans'))
local macro_rules | `(tactic| walk_at "hp") => `(tactic| repeat' (first | assumption | exact upd_same | apply old_upd | apply same_at))
local macro_rules | `(tactic| walk_at "rd") => `(tactic| repeat' (first | rfl | apply Exists.intro | apply And.intro | refine iteT ?_ | refine iteF ?_ | exact upd_same | exact SqL.of (by assumption) | exact SqL.of upd_same | exact SqT.of upd_same | exact SqT.of (by assumption) | ((with_reducible show (_ : Int) < _); omega) | ((with_reducible show (_ : Int) ≤ _); omega) | (show (_ : Prop); assumption) | exact Or.inl ⟨_, by assumption, rfl⟩ | exact Or.inl ⟨rfl, _, SqL.of (by assumption)⟩ | exact Or.inl ⟨rfl, _, SqL.of upd_same⟩ | apply old_upd | apply Hx.SqL.new | apply tyl_new | apply Pot.new | exact same_at (by assumption) (by assumption) | exact Or.inl (SqL.of (by assumption)) | exact Or.inl (by assumption) | exact Or.inl (SqL.of upd_same) | exact size_le (Nat.le_of_ble_eq_true rfl) | exact Nat.le_of_ble_eq_true rfl | exact True.intro | exact Or.inl rfl | exact Or.inr rfl | (show (_ : Prop); omega) | (show (_ : Prop); dsimp only; omega) | exact mulw64 (by omega) (by omega) | exact mulw64 (by (try dsimp only); omega) (by (try dsimp only); omega)))

section
variable {P : Program} {w : World} {K : PySem.W.Frag} {mg : Str → Option Value} {base : Heap}
def sp_Lpot (K : PySem.W.Frag) : Sp := fun vs H Q _ => ∃ (a : Addr) (ns : List Int), vs = [.ref a, .int 0] ∧ SqL K H a (ns.map V.int) ∧ ns.length ≤ 63 ∧ ∀ p (H' : Hp), H p = none → Same H H' → Pot H' p → Q (.ref p) H'
theorem ok_Lpot (T : Txt K mg) : FnOk P w K mg base CX0 1 T.f_Lpot T.fd_Lpot ["_law_script", "_law_k"] (sp_Lpot K) := by
  refine T.F_Lpot.ok sc_Lpot (fun vs H Q E h => ?_) (fun cdv A outer s H vs Q E hr h => ?_)
  · obtain ⟨a, ns, rfl, hS, hl, k⟩ := h; rfl
  · obtain ⟨a, ns, rfl, hS, hl, k⟩ := h
    refine ⟨_, (pss_cons (ps_set (i := 2) sc_Lpot.nd rfl (Or.inl rfl) (pe_ifExp (pt_cmpR op_lt (pv 1) (pe_callB call_len_list (by rfl) T.m_len (by decide +kernel) (pa_cons (pv 0) pa_nil)) (nomark _)) (pe_callB call_abs (by rfl) T.m_abs (by decide +kernel) (pa_cons (pe_ix ix_list (pv 0) (pv 1) (fun _ _ => rfl)) pa_nil)) (pe_op op_add (pe_op op_mulW pe_int (pv 1)) pe_int)))
        (pss_cons (ps_set (i := 3) sc_Lpot.nd rfl (Or.inl rfl) (pe_op op_add (pe_op op_mod (pe_callTy call_int1i (by rfl) T.m_int (by decide +kernel) (pa_cons (pe_op op_add (pe_op op_add (pe_op op_mulW (pe_op op_mod (pe_callTy call_int1i (by rfl) T.m_int (by decide +kernel) (pa_cons (pv 2) pa_nil)) pe_int) pe_int) (pe_op op_mulW pe_int (pv 1))) pe_int) pa_nil)) pe_int) pe_int))
        (pss_one (ps_ret (pe_lst (pa_cons (pe_callB (call_max2 rfl) (by rfl) T.m_max (by decide +kernel) (pa_cons pe_int (pa_cons (pe_op op_sub (pv 2) (pe_op op_pow pe_int pe_int)) pa_nil))) (pa_cons (pv 3) pa_nil))))))), ?_⟩
    clear hr
    walk_at "rd"
    refine iteD (fun h => ?_) (fun h => ?_)
    · obtain ⟨v, hv, hm⟩ := pick_at (xs := ns.map V.int) (d := 0) (by omega) (by omega)
      obtain ⟨z, _, rfl⟩ := List.mem_map.mp hm
      walk_at "rd"
      intro p hp
      exact k p _ hp (same_upd hp) ⟨_, _, upd_same, by split <;> omega, by omega, by omega⟩
    · walk_at "rd"
      intro p hp
      exact k p _ hp (same_upd hp) ⟨_, _, upd_same, by split <;> omega, by omega, by omega⟩

theorem ok_Ldraw (T : Txt K mg) : FnOk P w K mg base CX0 1 T.f_Ldraw T.fd_Ldraw ["_law_pot_here", "_law_size"] (spDraw) := by
  refine T.F_Ldraw.ok sc_Ldraw (fun vs H Q E h => ?_) (fun cdv A outer s H vs Q E hr h => ?_)
  · obtain ⟨a, n, rfl, ⟨x, y, e, hx, hy, hy2⟩, hn, hn2, k⟩ := h; rfl
  · obtain ⟨a, n, rfl, ⟨x, y, e, hx, hy, hy2⟩, hn, hn2, k⟩ := h
    refine ⟨_, (pss_cons (ps_if (pt_cmpR op_gt (pe_ix ix_list (pv 0) pe_int (fun _ _ => rfl)) pe_int (nomark _))
          (pss_cons (ps_asg (pe_callB call_divmod (by rfl) T.m_divmod (by decide +kernel) (pa_cons (pe_ix ix_list (pv 0) pe_int (fun _ _ => rfl)) (pa_cons (pv 1) pa_nil))) (pg_tup rfl (pgs_cons (pg_sub (pv 0) pe_int set_list) (pgs_cons (pg_name (i := 2) sc_Ldraw.nd rfl (Or.inl rfl)) pgs_nil))))
          (pss_one (ps_ret (pv 2))))
          pss_nil)
        (pss_cons (ps_asg (pe_op op_mod (pe_callTy call_int1i (by rfl) T.m_int (by decide +kernel) (pa_cons (pe_op op_add (pe_op op_mulW (pe_ix ix_list (pv 0) pe_int (fun _ _ => rfl)) pe_int) pe_int) pa_nil)) pe_int) (pg_sub (pv 0) pe_int set_list))
        (pss_one (ps_ret (pe_op op_mod (pe_callTy call_int1i (by rfl) T.m_int (by decide +kernel) (pa_cons (pe_op op_fdiv (pe_op op_mod (pe_callTy call_int1i (by rfl) T.m_int (by decide +kernel) (pa_cons (pe_op op_mulW (pe_ix ix_list (pv 0) pe_int (fun _ _ => rfl)) (pe_ix ix_list (pv 0) pe_int (fun _ _ => rfl))) pa_nil)) pe_int) pe_int) pa_nil)) (pv 1)))))), ?_⟩
    clear hr
    walk_at "rd"
    refine iteD (fun h => ?_) (fun h => ?_)
    · walk_at "rd"
      intro p hp
      have ne : a ≠ p := fun z => by rw [← z, e] at hp; cases hp
      walk_at "rd"
      exact k (x % n) _ (Int.emod_nonneg _ (by omega)) (Int.emod_lt_of_pos _ hn) ⟨_, _, upd_same, Int.ediv_nonneg hx (by omega), hy, hy2⟩ (fun b o nb hb => by rw [upd_ne nb]; exact same_upd hp b o hb)
    · walk_at "rd"
      exact k _ _ (Int.emod_nonneg _ (by omega)) (Int.emod_lt_of_pos _ hn) ⟨_, _, upd_same, hx, by omega, by omega⟩ But.set
/-- called with the pot and a list apart: one of the list -/
def spPick : Sp := fun vs H Q _ => ∃ (a b : Addr) (xs : List V), vs = [.ref a, .ref b] ∧ Pot H a ∧ H b = some (.lst xs) ∧ b ≠ a ∧ 0 < xs.length ∧ xs.length < 1000 ∧ ∀ (v : V) (H' : Hp), v ∈ xs → Pot H' a → But a H H' → Q v H'
theorem ok_Lpick (T : Txt K mg) : FnOk P w K mg base CX0 2 T.f_Lpick T.fd_Lpick ["_law_pot_here", "_law_some"] (spPick) := by
  have G_Ldraw := ok_Ldraw (P := P) (w := w) (base := base) T
  refine T.F_Lpick.ok sc_Lpick (fun vs H Q E h => ?_) (fun cdv A outer s H vs Q E hr h => ?_)
  · obtain ⟨a, b, xs, rfl, hp, hb, ne, h0, hx, k⟩ := h; rfl
  · obtain ⟨a, b, xs, rfl, hp, hb, ne, h0, hx, k⟩ := h
    refine ⟨_, (pss_one (ps_ret (pe_ix ix_list (pv 1) (pe_call G_Ldraw (hr.mono (by decide)) rfl T.g_Ldraw T.F_Ldraw.kp T.b_Ldraw .nil pass0 (pa_cons (pv 0) (pa_cons (pe_callB call_len_list (by rfl) T.m_len (by decide +kernel) (pa_cons (pv 1) pa_nil)) pa_nil))) (fun _ _ => rfl)))), ?_⟩
    clear G_Ldraw
    clear hr
    walk_at "rd"
    intro d H' d0 d1 hp' bt
    obtain ⟨v, hv, hm⟩ := pick_at (xs := xs) d0 (by simpa using d1)
    have hb' := bt b _ ne hb
    walk_at "rd"
    exact k v H' hm hp' bt
def sp_control : Sp := fun vs H Q _ => ∃ p : Addr, vs = [.ref p] ∧ Pot H p ∧ ∀ (z : Int) (H' : Hp), (0 ≤ z ∧ z < 65536) → Pot H' p → But p H H' → Q (.int z) H'
theorem ok_Lcontrol (T : Txt K mg) : FnOk P w K mg base CX0 3 T.f_Lcontrol T.fd_Lcontrol ["_law_pot_here"] (sp_control) := by
  have G_Lpick := ok_Lpick (P := P) (w := w) (base := base) T
  have G_Ldraw := ok_Ldraw (P := P) (w := w) (base := base) T
  refine T.F_Lcontrol.ok sc_Lcontrol (fun vs H Q E h => ?_) (fun cdv A outer s H vs Q E hr h => ?_)
  · obtain ⟨p, rfl, hp, k⟩ := h; rfl
  · obtain ⟨p, rfl, hp, k⟩ := h
    refine ⟨_, (pss_one (ps_ret (pe_call G_Lpick (hr.mono (by decide)) rfl T.g_Lpick T.F_Lpick.kp T.b_Lpick .nil pass0 (pa_cons (pv 0) (pa_cons (pe_lst (pa_cons pe_int (pa_cons pe_int (pa_cons pe_int (pa_cons pe_int (pa_cons pe_int (pa_cons pe_int (pa_cons pe_int (pa_cons pe_int (pa_cons pe_int (pa_cons pe_int (pa_cons pe_int (pa_cons pe_int (pa_cons pe_int (pa_cons (pe_call G_Ldraw (hr.mono (by decide)) rfl T.g_Ldraw T.F_Ldraw.kp T.b_Ldraw .nil pass0 (pa_cons (pv 0) (pa_cons pe_int pa_nil))) pa_nil))))))))))))))) pa_nil))))), ?_⟩
    clear G_Lpick G_Ldraw
    clear hr
    walk_at "rd"
    intro dw Hd w0 w1 hp1 b1
    walk_at "rd"
    intro t ht
    have tp := hp1.ne ht
    have hpt := hp1.new (o := .lst [.int 0, .int 1, .int 2, .int 5, .int 15, .int 16, .int 19, .int 31, .int 63, .int 64, .int 4095, .int 4096, .int 65535, .int dw]) ht
    walk_at "rd"
    intro v He hv hp2 b2
    obtain ⟨z, rfl, hz⟩ : ∃ z : Int, v = .int z ∧ (0 ≤ z ∧ z < 65536) := by
      simp only [List.mem_cons, List.not_mem_nil, or_false] at hv
      rcases hv with rfl | rfl | rfl | rfl | rfl | rfl | rfl | rfl | rfl | rfl | rfl | rfl | rfl | rfl <;> exact ⟨_, rfl, by omega⟩
    exact k z _ hz hp2 (b1.trans ((But.same (same_upd ht)).trans b2))
def sp_bit : Sp := fun vs H Q _ => ∃ (i : Int) (l : Nat), vs = [.int i, .int (l : Int)] ∧ (0 ≤ i ∧ i < 65536) ∧ l ≤ 15 ∧ Q (.int (i / 2 ^ l % 2)) H
theorem ok_Lbit (T : Txt K mg) : FnOk P w K mg base CX0 1 T.f_Lbit T.fd_Lbit ["_law_word", "_law_at"] (sp_bit) := by
  refine T.F_Lbit.ok sc_Lbit (fun vs H Q E h => ?_) (fun cdv A outer s H vs Q E hr h => ?_)
  · obtain ⟨i, l, rfl, hi, hl, k⟩ := h; rfl
  · obtain ⟨i, l, rfl, hi, hl, k⟩ := h
    refine ⟨_, (pss_one (ps_ret (pe_op op_mod (pe_op op_shr (pv 0) (pv 1)) pe_int))), ?_⟩
    clear hr
    walk_at "rd"
def sp_Ltrapped : Sp := fun vs H Q _ => ∃ (a : Addr) (ns : List Int) (c h b : Int), vs = [.ref a, .int c, .int h, .int b] ∧ H a = some (.lst (ns.map V.int)) ∧ Ctl ns ∧
  ∀ (t : Addr) (H' : Hp), H t = none → H' t = some (.lst ((trp ns c h b).map V.int)) → Same H H' → Q (.ref t) H'
theorem ok_Ltrapped (T : Txt K mg) : FnOk P w K mg base CX0 2 T.f_Ltrapped T.fd_Ltrapped ["_law_controls", "_law_cause", "_law_home", "_law_bad"] (sp_Ltrapped) := by
  have G_Lbit := ok_Lbit (P := P) (w := w) (base := base) T
  refine T.F_Ltrapped.ok sc_Ltrapped (fun vs H Q E h => ?_) (fun cdv A outer s H vs Q E hr h => ?_)
  · obtain ⟨a, ns, c, h, b, rfl, hs, hc, k⟩ := h; rfl
  · obtain ⟨a, ns, c, h, b, rfl, hs, hc, k⟩ := h
    refine ⟨_, (pss_cons (ps_set (i := 4) sc_Ltrapped.nd rfl (Or.inl rfl) (pe_ix ix_list (pv 0) pe_int (fun _ _ => rfl)))
        (pss_cons (ps_set (i := 5) sc_Ltrapped.nd rfl (Or.inl rfl) (pe_op op_add (pe_op op_add (pe_op op_add (pe_op op_sub (pv 4) (pe_op op_mod (pv 4) pe_int)) pe_int) (pe_op op_mulW pe_int (pe_call G_Lbit (hr.mono (by decide)) rfl T.g_Lbit T.F_Lbit.kp T.b_Lbit .nil pass0 (pa_cons (pv 4) (pa_cons pe_int pa_nil))))) (pe_op op_mulW pe_int (pe_call G_Lbit (hr.mono (by decide)) rfl T.g_Lbit T.F_Lbit.kp T.b_Lbit .nil pass0 (pa_cons (pv 4) (pa_cons pe_int pa_nil))))))
        (pss_one (ps_ret (pe_op op_cat (pe_lst (pa_cons (pv 5) (pa_cons (pv 1) (pa_cons (pv 2) (pa_cons (pv 3) pa_nil))))) (pe_slice sl_list (pv 0) (po_some pe_int) po_none)))))), ?_⟩
    clear G_Lbit
    clear hr
    obtain ⟨n0, n1, n2, n3, n4, n5, n6, n7, rfl, w0, w1, w2, w3, w4, w5, w6, w7⟩ := id hc.ex
    have a0 : atI ([n0, n1, n2, n3, n4, n5, n6, n7].map V.int) 0 = some (.int n0) := at_of (j := 0) (by omega) rfl
    walk_at "rd"
    intro o1 f1
    walk_at "rd"
    intro o2 f2
    have sz : ([V.int (n0 - n0 % 16 + 1 + 4 * (n0 / 2 ^ 0 % 2) + 8 * (n0 / 2 ^ 1 % 2)), V.int c, V.int h, V.int b] : List V).length + (cutV ([n0, n1, n2, n3, n4, n5, n6, n7].map V.int) (some 4) none).length ≤ sizeLine := size_le (Nat.le_of_ble_eq_true rfl)
    walk_at "rd"
    intro t ft
    have sm := Hx.Same.upd (o := .lst (cutV ([n0, n1, n2, n3, n4, n5, n6, n7].map V.int) (some 4) none)) (same_upd (o := .lst [V.int (n0 - n0 % 16 + 1 + 4 * (n0 / 2 ^ 0 % 2) + 8 * (n0 / 2 ^ 1 % 2)), V.int c, V.int h, V.int b]) f1) f2
    refine k t _ (sm.free ft) ?_ (Hx.Same.upd sm ft)
    rw [upd_same]
    have e : n0 - n0 % 16 + 1 + 4 * (n0 / 2 ^ 0 % 2) + 8 * (n0 / 2 ^ 1 % 2) = n0 - n0 % 16 + 1 + 4 * (n0 % 2) + 8 * (n0 / 2 % 2) := by omega
    show some (HO.lst [V.int (n0 - n0 % 16 + 1 + 4 * (n0 / 2 ^ 0 % 2) + 8 * (n0 / 2 ^ 1 % 2)), V.int c, V.int h, V.int b, V.int n4, V.int n5, V.int n6, V.int n7]) = _
    rw [e]; rfl
def sp_Lreturned : Sp := fun vs H Q _ => ∃ (a : Addr) (ns : List Int), vs = [.ref a] ∧ H a = some (.lst (ns.map V.int)) ∧ Ctl ns ∧
  ∀ (t : Addr) (H' : Hp), H t = none → H' t = some (.lst ((rtd ns).map V.int)) → Same H H' → Q (.ref t) H'
theorem ok_Lreturned (T : Txt K mg) : FnOk P w K mg base CX0 2 T.f_Lreturned T.fd_Lreturned ["_law_controls"] (sp_Lreturned) := by
  have G_Lbit := ok_Lbit (P := P) (w := w) (base := base) T
  refine T.F_Lreturned.ok sc_Lreturned (fun vs H Q E h => ?_) (fun cdv A outer s H vs Q E hr h => ?_)
  · obtain ⟨a, ns, rfl, hs, hc, k⟩ := h; rfl
  · obtain ⟨a, ns, rfl, hs, hc, k⟩ := h
    refine ⟨_, (pss_cons (ps_set (i := 1) sc_Lreturned.nd rfl (Or.inl rfl) (pe_ix ix_list (pv 0) pe_int (fun _ _ => rfl)))
        (pss_one (ps_ret (pe_op op_cat (pe_lst (pa_cons (pe_op op_add (pe_op op_add (pe_op op_sub (pv 1) (pe_op op_mod (pv 1) pe_int)) (pe_call G_Lbit (hr.mono (by decide)) rfl T.g_Lbit T.F_Lbit.kp T.b_Lbit .nil pass0 (pa_cons (pv 1) (pa_cons pe_int pa_nil)))) (pe_op op_mulW pe_int (pe_call G_Lbit (hr.mono (by decide)) rfl T.g_Lbit T.F_Lbit.kp T.b_Lbit .nil pass0 (pa_cons (pv 1) (pa_cons pe_int pa_nil))))) pa_nil)) (pe_slice sl_list (pv 0) (po_some pe_int) po_none))))), ?_⟩
    clear G_Lbit
    clear hr
    obtain ⟨n0, n1, n2, n3, n4, n5, n6, n7, rfl, w0, w1, w2, w3, w4, w5, w6, w7⟩ := id hc.ex
    have a0 : atI ([n0, n1, n2, n3, n4, n5, n6, n7].map V.int) 0 = some (.int n0) := at_of (j := 0) (by omega) rfl
    walk_at "rd"
    intro o1 f1
    walk_at "rd"
    intro o2 f2
    have sz : ([V.int (n0 - n0 % 4 + n0 / 2 ^ 2 % 2 + 2 * (n0 / 2 ^ 3 % 2))] : List V).length + (cutV ([n0, n1, n2, n3, n4, n5, n6, n7].map V.int) (some 1) none).length ≤ sizeLine := size_le (Nat.le_of_ble_eq_true rfl)
    walk_at "rd"
    intro t ft
    have sm := Hx.Same.upd (o := .lst (cutV ([n0, n1, n2, n3, n4, n5, n6, n7].map V.int) (some 1) none)) (same_upd (o := .lst [V.int (n0 - n0 % 4 + n0 / 2 ^ 2 % 2 + 2 * (n0 / 2 ^ 3 % 2))]) f1) f2
    refine k t _ (sm.free ft) ?_ (Hx.Same.upd sm ft)
    rw [upd_same]
    have e : n0 - n0 % 4 + n0 / 2 ^ 2 % 2 + 2 * (n0 / 2 ^ 3 % 2) = n0 - n0 % 4 + n0 / 4 % 4 := by omega
    show some (HO.lst [V.int (n0 - n0 % 4 + n0 / 2 ^ 2 % 2 + 2 * (n0 / 2 ^ 3 % 2)), V.int n1, V.int n2, V.int n3, V.int n4, V.int n5, V.int n6, V.int n7]) = _
    rw [e]; rfl
end
end K41

set_option Elab.async false
set_option linter.all false
set_option maxRecDepth 100000
set_option maxHeartbeats 8000000

namespace K41
open PySem PySem.Spec PyProof.Rows L2 Hx 
local macro_rules | `(tactic| walk_at "sm") => `(tactic| repeat' (first | assumption | apply Hx.Same.upd | exact L2.Same.refl _ | apply same_trans'))
local macro_rules | `(tactic| walk_at "hp") => `(tactic| repeat' (first | assumption | exact upd_same | apply old_upd | apply same_at))
local macro_rules | `(tactic| walk_at "rd") => `(tactic| repeat' (first | rfl | apply Exists.intro | apply And.intro | refine iteT ?_ | refine iteF ?_ | exact upd_same | exact SqL.of (by assumption) | exact SqL.of upd_same | exact SqT.of upd_same | exact SqT.of (by assumption) | ((with_reducible show (_ : Int) < _); omega) | ((with_reducible show (_ : Int) ≤ _); omega) | (show (_ : Prop); assumption) | exact Or.inl ⟨_, by assumption, rfl⟩ | exact Or.inl ⟨rfl, _, SqL.of (by assumption)⟩ | exact Or.inl ⟨rfl, _, SqL.of upd_same⟩ | apply old_upd | apply Hx.SqL.new | apply tyl_new | apply Pot.new | exact same_at (by assumption) (by assumption) | exact Or.inl (SqL.of (by assumption)) | exact Or.inl (by assumption) | exact Or.inl (SqL.of upd_same) | exact size_le (Nat.le_of_ble_eq_true rfl) | exact Nat.le_of_ble_eq_true rfl | exact True.intro | exact Or.inl rfl | exact Or.inr rfl | (show (_ : Prop); omega) | (show (_ : Prop); dsimp only; omega) | exact mulw64 (by omega) (by omega) | exact mulw64 (by (try dsimp only); omega) (by (try dsimp only); omega)))

section
variable {P : Program} {w : World} {K : PySem.W.Frag} {mg : Str → Option Value} {base : Heap}
def sp_parts (K : PySem.W.Frag) : Sp := fun vs H Q _ => ∃ (a : Addr) (ns : List Int), vs = [.ref a] ∧ H a = some (.lst (ns.map V.int)) ∧ Ctl ns ∧ ∀ H', Same H H' → Q (.bl true) H'
theorem ok_Lparts_right (T : Txt K mg) : FnG P w K mg base 9 T.f_Lparts_right T.fd_Lparts_right ["_law_controls"] (sp_parts K) := by
  have G_is_paged := ok_is_paged (P := P) (w := w) (base := base) T
  have G_is_on := ok_is_on (P := P) (w := w) (base := base) T
  have G_is_supervisor := ok_is_supervisor (P := P) (w := w) (base := base) T
  have G_Lbit := ok_Lbit (P := P) (w := w) (base := base) T
  have G_line_mask := ok_line_mask (P := P) (w := w) (base := base) T
  have G_root_frame := ok_root_frame (P := P) (w := w) (base := base) T
  have G_home_address := ok_home_address (P := P) (w := w) (base := base) T
  have G_entry_address := ok_entry_address (P := P) (w := w) (base := base) T
  refine fnG T.F_Lparts_right sc_Lparts_right (fun vs H Q E h => ?_) (fun cdv A outer s H vs Q E hr hg h => ?_)
  · obtain ⟨a, ns, rfl, hs, hc, k⟩ := h; rfl
  · obtain ⟨a, ns, rfl, hs, hc, k⟩ := h
    refine ⟨_, (pss_cons (ps_set (i := 1) sc_Lparts_right.nd rfl (Or.inl rfl) (pe_ix ix_list (pv 0) pe_int (fun _ _ => rfl)))
        (pss_cons (ps_set (i := 2) sc_Lparts_right.nd rfl (Or.inl rfl) (pe_lst (pa_cons (pe_call G_is_supervisor (hr.mono (by decide)) rfl T.g_is_supervisor T.F_is_supervisor.kp T.b_is_supervisor .nil pass0 (pa_cons (pv 0) pa_nil)) (pa_cons (pe_call G_is_on (hr.mono (by decide)) rfl T.g_is_on T.F_is_on.kp T.b_is_on .nil pass0 (pa_cons (pv 0) pa_nil)) (pa_cons (pe_callKA G_is_paged (hr.mono (by decide)) rfl T.g_is_paged T.F_is_paged.kp T.kb_is_paged pass0 (pk_cons (pv 0) pk_nil)) pa_nil)))))
        (pss_cons (ps_set (i := 3) sc_Lparts_right.nd rfl (Or.inl rfl) (pe_lst (pa_cons (pe_cmpR op_eq (pe_call G_Lbit (hr.mono (by decide)) rfl T.g_Lbit T.F_Lbit.kp T.b_Lbit .nil pass0 (pa_cons (pv 1) (pa_cons pe_int pa_nil))) pe_int (nomark _)) (pa_cons (pe_cmpR op_eq (pe_call G_Lbit (hr.mono (by decide)) rfl T.g_Lbit T.F_Lbit.kp T.b_Lbit .nil pass0 (pa_cons (pv 1) (pa_cons pe_int pa_nil))) pe_int (nomark _)) (pa_cons (pe_cmpR op_eq (pe_call G_Lbit (hr.mono (by decide)) rfl T.g_Lbit T.F_Lbit.kp T.b_Lbit .nil pass0 (pa_cons (pv 1) (pa_cons pe_int pa_nil))) pe_int (nomark _)) pa_nil)))))
        (pss_cons (ps_if (pt_cmpR op_ne (pe_callB (call_reprG hg (hr.mono (by decide))) (by rfl) T.m_repr (by decide +kernel) (pa_cons (pv 2) pa_nil)) (pe_callB (call_reprG hg (hr.mono (by decide))) (by rfl) T.m_repr (by decide +kernel) (pa_cons (pv 3) pa_nil)) (nomark _))
          (pss_one (ps_ret pe_bl))
          pss_nil)
        (pss_cons (ps_set (i := 2) sc_Lparts_right.nd rfl (Or.inl rfl) (pe_lst (pa_cons (pe_call G_entry_address (hr.mono (by decide)) rfl T.g_entry_address T.F_entry_address.kp T.b_entry_address .nil pass0 (pa_cons (pv 0) pa_nil)) (pa_cons (pe_callKA G_home_address (hr.mono (by decide)) rfl T.g_home_address T.F_home_address.kp T.kb_home_address pass0 (pk_cons (pe_callTy call_tuple_of (by rfl) T.m_tuple (by decide +kernel) (pa_cons (pv 0) pa_nil)) pk_nil)) (pa_cons (pe_call G_root_frame (hr.mono (by decide)) rfl T.g_root_frame T.F_root_frame.kp T.b_root_frame .nil pass0 (pa_cons (pv 0) pa_nil)) (pa_cons (pe_call G_line_mask (hr.mono (by decide)) rfl T.g_line_mask T.F_line_mask.kp T.b_line_mask .nil pass0 (pa_cons (pv 0) pa_nil)) pa_nil))))))
        (pss_one (ps_ret (pe_cmpR (op_eqS hr.units) (pv 2) (pe_lst (pa_cons (pe_op op_mod (pe_ix ix_list (pv 0) pe_int (fun _ _ => rfl)) pe_int) (pa_cons (pe_op op_mod (pe_ix ix_list (pv 0) pe_int (fun _ _ => rfl)) pe_int) (pa_cons (pe_op op_mod (pe_ix ix_list (pv 0) pe_int (fun _ _ => rfl)) pe_int) (pa_cons (pe_op op_mod (pe_ix ix_list (pv 0) pe_int (fun _ _ => rfl)) pe_int) pa_nil))))) (nomark _))))))))), ?_⟩
    clear G_is_paged G_is_on G_is_supervisor G_Lbit G_line_mask G_root_frame G_home_address G_entry_address
    clear hr hg
    obtain ⟨n0, n1, n2, n3, n4, n5, n6, n7, en, w0, w1, w2, w3, w4, w5, w6, w7⟩ := id hc.ex
    have a0 : atI (ns.map V.int) 0 = some (.int n0) := by rw [en]; exact at_of (j := 0) (by omega) rfl
    have hq : Sq K H a (ns.map V.int) := .inl hs
    walk_at "rd"
    intro H1 s1
    have hs1 := s1 _ _ hs
    have hq1 : Sq K H1 a (ns.map V.int) := .inl hs1
    walk_at "rd"
    intro H2 s2
    have hs2 := s2 _ _ hs1
    have hq2 : Sq K H2 a (ns.map V.int) := .inl hs2
    walk_at "rd"
    intro H3 s3
    have hs3 := s3 _ _ hs2
    clear hs hs1 hs2 hq hq1 hq2
    replace s3 := L2.Same.trans s1 (L2.Same.trans s2 s3)
    clear s1 s2
    walk_at "rd"
    intro t1 f1
    have D1 : Dp K (upd H3 t1 (.lst [V.bl (sb ns 0), V.bl (sb ns 1), V.bl (sb ns 4)])) (.ref t1) (.list ([sb ns 0, sb ns 1, sb ns 4].map PyData.bool)) := .lst (SqL.of upd_same) (dp_bools [sb ns 0, sb ns 1, sb ns 4])
    have hs4 : (upd H3 t1 (.lst [V.bl (sb ns 0), V.bl (sb ns 1), V.bl (sb ns 4)])) a = some (.lst (ns.map V.int)) := old_upd f1 hs3
    have s4 : Same H (upd H3 t1 (.lst [V.bl (sb ns 0), V.bl (sb ns 1), V.bl (sb ns 4)])) := Hx.Same.upd s3 f1
    have eb : ∀ b : Nat, decide (V.int (n0 / 2 ^ b % 2) = V.int 1) = sb ns b := fun b => by rw [en]; simp [sb]
    obtain ⟨r1, r2, r3, r4⟩ := shown_bools [sb ns 0, sb ns 1, sb ns 4] (by simp)
    clear hs3 s3
    walk_at "rd"
    intro t2 f2
    have ev : ([V.bl (decide (V.int (n0 / 2 ^ 0 % 2) = V.int 1)), V.bl (decide (V.int (n0 / 2 ^ 1 % 2) = V.int 1)), V.bl (decide (V.int (n0 / 2 ^ 4 % 2) = V.int 1))] : List V) = [sb ns 0, sb ns 1, sb ns 4].map V.bl := by rw [eb 0, eb 1, eb 4]; rfl
    rw [ev]
    replace D1 := dp_same (same_upd (o := .lst ([sb ns 0, sb ns 1, sb ns 4].map V.bl)) f2) _ _ D1
    have D2 : Dp K (upd (upd H3 t1 (.lst [V.bl (sb ns 0), V.bl (sb ns 1), V.bl (sb ns 4)])) t2 (.lst ([sb ns 0, sb ns 1, sb ns 4].map V.bl))) (.ref t2) (.list ([sb ns 0, sb ns 1, sb ns 4].map PyData.bool)) := .lst (SqL.of upd_same) (dp_bools [sb ns 0, sb ns 1, sb ns 4])
    replace hs4 := old_upd (o := .lst ([sb ns 0, sb ns 1, sb ns 4].map V.bl)) f2 hs4
    replace s4 := Hx.Same.upd (o := .lst ([sb ns 0, sb ns 1, sb ns 4].map V.bl)) s4 f2
    clear f1 f2 ev eb
    generalize upd (upd H3 t1 (.lst [V.bl (sb ns 0), V.bl (sb ns 1), V.bl (sb ns 4)])) t2 (.lst ([sb ns 0, sb ns 1, sb ns 4].map V.bl)) = H4 at D1 D2 hs4 s4 ⊢
    have hq4 : Sq K H4 a (ns.map V.int) := .inl hs4
    walk_at "rd"
    refine iteN (fun h => absurd rfl h) (fun _ => ?_)
    clear r1 r2 r3 r4 D1 D2
    walk_at "rd"
    intro H5 s5
    have hs5 := s5 _ _ hs4
    replace s5 := L2.Same.trans s4 s5
    clear hs4 hq4 s4
    walk_at "rd"
    refine Or.inl ⟨SqL.of hs5, fun tt ht => ?_⟩
    have hqt : Sq K (upd H5 tt (.tup (ns.map V.int))) tt (ns.map V.int) := .inr upd_same
    have hs6 := old_upd (o := .tup (ns.map V.int)) ht hs5
    have s6 := Hx.Same.upd (o := .tup (ns.map V.int)) s5 ht
    clear hs5 s5 ht
    generalize upd H5 tt (.tup (ns.map V.int)) = H6 at hqt hs6 s6 ⊢
    walk_at "rd"
    intro H7 s7
    have hs7 := s7 _ _ hs6
    replace s7 := L2.Same.trans s6 s7
    have hq7 : Sq K H7 a (ns.map V.int) := .inl hs7
    clear hqt hs6 s6
    walk_at "rd"
    intro H8 s8
    have hs8 := s8 _ _ hs7
    replace s8 := L2.Same.trans s7 s8
    have hq8 : Sq K H8 a (ns.map V.int) := .inl hs8
    clear hs7 hq7 s7
    walk_at "rd"
    intro H9 s9
    have hs9 := s9 _ _ hs8
    replace s9 := L2.Same.trans s8 s9
    clear hs8 hq8 s8
    have a4 : atI (ns.map V.int) 4 = some (.int n4) := by rw [en]; exact at_of (j := 4) (by omega) rfl
    have a2 : atI (ns.map V.int) 2 = some (.int n2) := by rw [en]; exact at_of (j := 2) (by omega) rfl
    have a5 : atI (ns.map V.int) 5 = some (.int n5) := by rw [en]; exact at_of (j := 5) (by omega) rfl
    have a6 : atI (ns.map V.int) 6 = some (.int n6) := by rw [en]; exact at_of (j := 6) (by omega) rfl
    walk_at "rd"
    intro t3 f3
    have hs10 := old_upd (o := .lst [V.int (ns.getD 4 0 % 4096), V.int (ns.getD 2 0 % 4096), V.int (ns.getD 5 0 % 64), V.int (ns.getD 6 0 % 16)]) f3 hs9
    have e10 : (upd H9 t3 (.lst [V.int (ns.getD 4 0 % 4096), V.int (ns.getD 2 0 % 4096), V.int (ns.getD 5 0 % 64), V.int (ns.getD 6 0 % 16)])) t3 = some (.lst ([n4 % 4096, n2 % 4096, n5 % 64, n6 % 16].map V.int)) := by rw [upd_same, en]; rfl
    have s10 := Hx.Same.upd (o := .lst [V.int (ns.getD 4 0 % 4096), V.int (ns.getD 2 0 % 4096), V.int (ns.getD 5 0 % 64), V.int (ns.getD 6 0 % 16)]) s9 f3
    walk_at "rd"
    intro t4 f4
    have D3 : Dp K (upd (upd H9 t3 (.lst [V.int (ns.getD 4 0 % 4096), V.int (ns.getD 2 0 % 4096), V.int (ns.getD 5 0 % 64), V.int (ns.getD 6 0 % 16)])) t4 (.lst [V.int (n4 % 4096), V.int (n2 % 4096), V.int (n5 % 64), V.int (n6 % 16)])) (.ref t3) (.list ([n4 % 4096, n2 % 4096, n5 % 64, n6 % 16].map PyData.int)) := .lst (SqL.of (old_upd f4 e10)) (dp_ints _)
    have D4 : Dp K (upd (upd H9 t3 (.lst [V.int (ns.getD 4 0 % 4096), V.int (ns.getD 2 0 % 4096), V.int (ns.getD 5 0 % 64), V.int (ns.getD 6 0 % 16)])) t4 (.lst [V.int (n4 % 4096), V.int (n2 % 4096), V.int (n5 % 64), V.int (n6 % 16)])) (.ref t4) (.list ([n4 % 4096, n2 % 4096, n5 % 64, n6 % 16].map PyData.int)) := .lst (SqL.of upd_same) (dp_ints [n4 % 4096, n2 % 4096, n5 % 64, n6 % 16])
    have SH := sh_ints [n4 % 4096, n2 % 4096, n5 % 64, n6 % 16]
    have q := k _ (Hx.Same.upd (o := .lst [V.int (n4 % 4096), V.int (n2 % 4096), V.int (n5 % 64), V.int (n6 % 16)]) s10 f4)
    walk_at "rd"
end
end K41

set_option Elab.async false
set_option linter.all false
set_option maxRecDepth 100000
set_option maxHeartbeats 8000000

namespace K41
open PySem PySem.Spec PyProof.Rows L2 Hx 
local macro_rules | `(tactic| walk_at "sm") => `(tactic| repeat' (first | assumption | apply Hx.Same.upd | exact L2.Same.refl _ | apply same_trans'))
local macro_rules | `(tactic| walk_at "hp") => `(tactic| repeat' (first | assumption | exact upd_same | apply old_upd | apply same_at))
local macro_rules | `(tactic| walk_at "rd") => `(tactic| repeat' (first | rfl | apply Exists.intro | apply And.intro | refine iteT ?_ | refine iteF ?_ | exact upd_same | exact SqL.of (by assumption) | exact SqL.of upd_same | exact SqT.of upd_same | exact SqT.of (by assumption) | ((with_reducible show (_ : Int) < _); omega) | ((with_reducible show (_ : Int) ≤ _); omega) | (show (_ : Prop); assumption) | exact Or.inl ⟨_, by assumption, rfl⟩ | exact Or.inl ⟨rfl, _, SqL.of (by assumption)⟩ | exact Or.inl ⟨rfl, _, SqL.of upd_same⟩ | apply old_upd | apply Hx.SqL.new | apply tyl_new | apply Pot.new | exact same_at (by assumption) (by assumption) | exact Or.inl (SqL.of (by assumption)) | exact Or.inl (by assumption) | exact Or.inl (SqL.of upd_same) | exact size_le (Nat.le_of_ble_eq_true rfl) | exact Nat.le_of_ble_eq_true rfl | exact True.intro | exact Or.inl rfl | exact Or.inr rfl | (show (_ : Prop); omega) | (show (_ : Prop); dsimp only; omega) | exact mulw64 (by omega) (by omega) | exact mulw64 (by (try dsimp only); omega) (by (try dsimp only); omega)))

section
variable {P : Program} {w : World} {K : PySem.W.Frag} {mg : Str → Option Value} {base : Heap}
theorem _root_.Hx.Pot.ctl {H : Hp} {p a : Addr} {ns : List Int} (h : Pot H p) (k : H a = some (.lst (ns.map V.int))) (c : Ctl ns) : a ≠ p := fun z => by
  obtain ⟨i, j, e, _⟩ := h.ex
  rw [z, e] at k
  injection k with k
  injection k with k
  have l := congrArg List.length k
  rw [List.length_map, c.len] at l
  cases l
theorem ctl_rtd {ns : List Int} (h : Ctl ns) : Ctl (rtd ns) := by
  obtain ⟨n0, n1, n2, n3, n4, n5, n6, n7, rfl, w0, w⟩ := h.ex
  exact ctl_mk ⟨by show 0 ≤ n0 - n0 % 4 + n0 / 4 % 4 ∧ n0 - n0 % 4 + n0 / 4 % 4 < 65536; omega, w⟩
theorem at0 {ns : List Int} (h : Ctl ns) : atI (ns.map V.int) 0 = some (.int (ns.headD 0)) := by
  obtain ⟨n0, n1, n2, n3, n4, n5, n6, n7, rfl, w⟩ := h.ex
  exact at_of (j := 0) (by omega) rfl
theorem back0 (ns : List Int) (c h b : Int) : (rtd (trp ns c h b)).headD 0 % 4 = ns.headD 0 % 4 := by
  show (ns.headD 0 - ns.headD 0 % 16 + 1 + 4 * (ns.headD 0 % 2) + 8 * (ns.headD 0 / 2 % 2) - (ns.headD 0 - ns.headD 0 % 16 + 1 + 4 * (ns.headD 0 % 2) + 8 * (ns.headD 0 / 2 % 2)) % 4 + (ns.headD 0 - ns.headD 0 % 16 + 1 + 4 * (ns.headD 0 % 2) + 8 * (ns.headD 0 / 2 % 2)) / 4 % 4) % 4 = ns.headD 0 % 4
  generalize ns.headD 0 = s
  have e2 : s % 4 = s % 2 + 2 * (s / 2 % 2) := by omega
  have e3 : s - s % 16 + 1 + 4 * (s % 2) + 8 * (s / 2 % 2) = 16 * (s / 16) + 1 + 4 * (s % 4) := by omega
  rw [e3]
  have r0 : 0 ≤ s % 4 ∧ s % 4 < 4 := by omega
  clear e2 e3
  generalize s / 16 = q, s % 4 = r at *
  omega
theorem ctl_trp {ns : List Int} {c h b : Int} (k : Ctl ns) (hc : 1 ≤ c ∧ c ≤ 31) (hh : 0 ≤ h ∧ h < 4096) (hb : 0 ≤ b ∧ b < 4096) : Ctl (trp ns c h b) := by
  obtain ⟨n0, n1, n2, n3, n4, n5, n6, n7, rfl, w0, w1, w2, w3, w⟩ := k.ex
  exact ctl_mk ⟨by show 0 ≤ n0 - n0 % 16 + 1 + 4 * (n0 % 2) + 8 * (n0 / 2 % 2) ∧ n0 - n0 % 16 + 1 + 4 * (n0 % 2) + 8 * (n0 / 2 % 2) < 65536; omega, by omega, by omega, by omega, w⟩
def sp_right (K : PySem.W.Frag) : Sp := fun vs H Q _ => ∃ p : Addr, vs = [.ref p] ∧ Pot H p ∧ ∀ H', Q (.bl true) H'
theorem ok_Lright (T : Txt K mg) : FnG P w K mg base 10 T.f_Lright T.fd_Lright ["_law_pot_here"] (sp_right K) := by
  have G_Lcontrol := ok_Lcontrol (P := P) (w := w) (base := base) T
  have G_fresh_controls := ok_fresh_controls (P := P) (w := w) (base := base) T
  have G_Lparts_right := ok_Lparts_right (P := P) (w := w) (base := base) T
  have G_Ldraw := ok_Ldraw (P := P) (w := w) (base := base) T
  have G_trapped := ok_trapped (P := P) (w := w) (base := base) T
  have G_Ltrapped := ok_Ltrapped (P := P) (w := w) (base := base) T
  have G_returned := ok_returned (P := P) (w := w) (base := base) T
  have G_home_address := ok_home_address (P := P) (w := w) (base := base) T
  have G_Lreturned := ok_Lreturned (P := P) (w := w) (base := base) T
  refine fnG T.F_Lright sc_Lright (fun vs H Q E h => ?_) (fun cdv A outer s H vs Q E hr hg h => ?_)
  · obtain ⟨p, rfl, hp, k⟩ := h; rfl
  · obtain ⟨p, rfl, hp, k⟩ := h
    refine ⟨_, (pss_cons (ps_set (i := 1) sc_Lright.nd rfl (Or.inl rfl) (pe_lst pa_nil))
        (pss_cons (ps_forS PassesOwn.never rfl (pi_range1 rfl T.m_range (pa_cons pe_int pa_nil)) (pg_name (i := 2) sc_Lright.nd rfl (Or.inl rfl))
          (pss_one (ps_expr (pe_bm PySem.F.plainAttrs_list PySem.F.slot_list_append PySem.F.type_list_append mt_append (pv 1) (pa_cons (pe_call G_Lcontrol (hr.mono (by decide)) rfl T.g_Lcontrol T.F_Lcontrol.kp T.b_Lcontrol .nil pass0 (pa_cons (pv 0) pa_nil)) pa_nil)))))
        (pss_cons (ps_if (PW.pt (pw_or (pt_not (pt_val (pe_callG (E := E0) hg G_Lparts_right (hr.mono (by decide)) rfl T.g_Lparts_right T.F_Lparts_right.kp T.b_Lparts_right (pa_cons (pv 1) pa_nil)))) (pw_or1 (pt_cmpR (op_neS hr.units) (pe_call0 G_fresh_controls (hr.mono (by decide)) rfl T.g_fresh_controls T.F_fresh_controls.kp T.b_fresh_controls .nil pass0) (pe_op op_cat (pe_lst (pa_cons pe_int pa_nil)) (pe_op op_rep (pe_lst (pa_cons pe_int pa_nil)) pe_int)) (nomark _)))))
          (pss_one (ps_ret pe_bl))
          pss_nil)
        (pss_cons (ps_forS PassesOwn.never rfl (pi_range1 rfl T.m_range (pa_cons pe_int pa_nil)) (pg_name (i := 2) sc_Lright.nd rfl (Or.inl rfl))
          (pss_cons (ps_set (i := 3) sc_Lright.nd rfl (Or.inl rfl) (pe_callB (call_reprG hg (hr.mono (by decide))) (by rfl) T.m_repr (by decide +kernel) (pa_cons (pv 1) pa_nil)))
          (pss_cons (ps_if (pt_cmpR op_gt (pe_call G_Ldraw (hr.mono (by decide)) rfl T.g_Ldraw T.F_Ldraw.kp T.b_Ldraw .nil pass0 (pa_cons (pv 0) (pa_cons pe_int pa_nil))) pe_int (nomark _))
            (pss_cons (ps_par3 (i := 4) (j := 5) (l := 6) rfl sc_Lright.nd rfl rfl rfl (by decide) (by decide) (by decide) rfl rfl rfl (pa_cons (pe_op op_add pe_int (pe_call G_Ldraw (hr.mono (by decide)) rfl T.g_Ldraw T.F_Ldraw.kp T.b_Ldraw .nil pass0 (pa_cons (pv 0) (pa_cons pe_int pa_nil)))) (pa_cons (pe_call G_Ldraw (hr.mono (by decide)) rfl T.g_Ldraw T.F_Ldraw.kp T.b_Ldraw .nil pass0 (pa_cons (pv 0) (pa_cons pe_int pa_nil))) (pa_cons (pe_call G_Ldraw (hr.mono (by decide)) rfl T.g_Ldraw T.F_Ldraw.kp T.b_Ldraw .nil pass0 (pa_cons (pv 0) (pa_cons pe_int pa_nil))) pa_nil))) (by rfl))
            (pss_cons (ps_set (i := 7) sc_Lright.nd rfl (Or.inl rfl) (pe_call G_trapped (hr.mono (by decide)) rfl T.g_trapped T.F_trapped.kp T.b_trapped .nil pass0 (pa_cons (pv 1) (pa_cons (pv 4) (pa_cons (pv 5) (pa_cons (pv 6) pa_nil))))))
            (pss_cons (ps_if (pt_cmpR (op_neS hr.units) (pv 7) (pe_call G_Ltrapped (hr.mono (by decide)) rfl T.g_Ltrapped T.F_Ltrapped.kp T.b_Ltrapped .nil pass0 (pa_cons (pv 1) (pa_cons (pv 4) (pa_cons (pv 5) (pa_cons (pv 6) pa_nil))))) (nomark _))
              (pss_one (ps_ret pe_bl))
              pss_nil)
            (pss_cons (ps_if (pt_cmpR (op_neS hr.units) (pe_callKA G_trapped (hr.mono (by decide)) rfl T.g_trapped T.F_trapped.kp T.kp_trapped_0_3210 pass0 (pk_cons (pv 6) (pk_cons (pv 5) (pk_cons (pv 4) (pk_cons (pe_callTy call_tuple_of (by rfl) T.m_tuple (by decide +kernel) (pa_cons (pv 1) pa_nil)) pk_nil))))) (pv 7) (nomark _))
              (pss_one (ps_ret pe_bl))
              pss_nil)
            (pss_cons (ps_set (i := 8) sc_Lright.nd rfl (Or.inl rfl) (pe_call G_returned (hr.mono (by decide)) rfl T.g_returned T.F_returned.kp T.b_returned .nil pass0 (pa_cons (pv 7) pa_nil)))
            (pss_one (ps_if (PW.pt (pw_or (pt_cmpR op_ne (pe_op op_mod (pe_ix ix_list (pv 8) pe_int (fun _ _ => rfl)) pe_int) (pe_op op_mod (pe_ix ix_list (pv 1) pe_int (fun _ _ => rfl)) pe_int) (nomark _)) (pw_or (pt_cmpR (op_neS hr.units) (pe_slice sl_list (pv 8) (po_some pe_int) po_none) (pe_slice sl_list (pv 1) (po_some pe_int) po_none) (nomark _)) (pw_or1 (pt_cmpR op_ne (pe_call G_home_address (hr.mono (by decide)) rfl T.g_home_address T.F_home_address.kp T.b_home_address .nil pass0 (pa_cons (pv 8) pa_nil)) (pv 5) (nomark _))))))
              (pss_one (ps_ret pe_bl))
              pss_nil)))))))
            (pss_cons (ps_set (i := 7) sc_Lright.nd rfl (Or.inl rfl) (pe_call G_returned (hr.mono (by decide)) rfl T.g_returned T.F_returned.kp T.b_returned .nil pass0 (pa_cons (pv 1) pa_nil)))
            (pss_one (ps_if (PW.pt (pw_or (pt_cmpR (op_neS hr.units) (pv 7) (pe_call G_Lreturned (hr.mono (by decide)) rfl T.g_Lreturned T.F_Lreturned.kp T.b_Lreturned .nil pass0 (pa_cons (pv 1) pa_nil)) (nomark _)) (pw_or1 (pt_cmpR (op_neS hr.units) (pe_callKA G_returned (hr.mono (by decide)) rfl T.g_returned T.F_returned.kp T.kb_returned pass0 (pk_cons (pe_callTy call_tuple_of (by rfl) T.m_tuple (by decide +kernel) (pa_cons (pv 1) pa_nil)) pk_nil)) (pv 7) (nomark _)))))
              (pss_one (ps_ret pe_bl))
              pss_nil))))
          (pss_cons (ps_if (PW.pt (pw_or (pt_cmpR op_ne (pe_callB (call_reprG hg (hr.mono (by decide))) (by rfl) T.m_repr (by decide +kernel) (pa_cons (pv 1) pa_nil)) (pv 3) (nomark _)) (pw_or1 (pt_not (pt_val (pe_callG (E := E0) hg G_Lparts_right (hr.mono (by decide)) rfl T.g_Lparts_right T.F_Lparts_right.kp T.b_Lparts_right (pa_cons (pv 7) pa_nil)))))))
            (pss_one (ps_ret pe_bl))
            pss_nil)
          (pss_one (ps_set (i := 1) sc_Lright.nd rfl (Or.inl rfl) (pv 7)))))))
        (pss_cons (ps_set (i := 9) sc_Lright.nd rfl (Or.inl rfl) (pe_call0 G_fresh_controls (hr.mono (by decide)) rfl T.g_fresh_controls T.F_fresh_controls.kp T.b_fresh_controls .nil pass0))
        (pss_cons (ps_expr (pe_bm PySem.F.plainAttrs_list PySem.F.slot_list_append PySem.F.type_list_append mt_append (pv 9) (pa_cons pe_int pa_nil)))
        (pss_one (ps_ret (pe_cmpR op_eq (pe_callB call_len_list (by rfl) T.m_len (by decide +kernel) (pa_cons (pe_call0 G_fresh_controls (hr.mono (by decide)) rfl T.g_fresh_controls T.F_fresh_controls.kp T.b_fresh_controls .nil pass0) pa_nil)) pe_int (nomark _)))))))))), ?_⟩
    clear G_Lcontrol G_fresh_controls G_Lparts_right G_Ldraw G_trapped G_Ltrapped G_returned G_home_address G_Lreturned
    clear hr hg
    walk_at "rd"
    intro a fa
    have pa : a ≠ p := hp.ne fa
    have hpa := hp.new (o := .lst []) fa
    have ea : (upd H a (.lst [])) a = some (.lst (([] : List Int).map V.int)) := upd_same
    clear hp fa
    generalize upd H a (.lst []) = H1 at hpa ea ⊢
    walk_at "rd"
    refine ⟨for_range (n := 8) (fun i σ H' => Stop (∃ (t2 : Option V) (ns : List Int), σ = [some (.ref p), some (.ref a), t2, none, none, none, none, none, none, none] ∧ Pot H' p ∧ H' a = some (.lst (ns.map V.int)) ∧ ns.length = i ∧ Wd ns)) ⟨⟨none, [], rfl, hpa, ea, rfl, fun z h => nomatch h⟩⟩ (fun i σ H' hi h => ?_) (fun σ H' h => ?_)⟩
    · obtain ⟨t2, ns, rfl, hpp, hnn, hln, hw⟩ := h.h
      walk_at "rd"
      intro z Hz hzz hpz bz
      have hnz := bz _ _ pa hnn
      have hlz : (ns.map V.int).length < sizeLine := size_lt (by simp; omega)
      walk_at "rd"
      exact ⟨⟨_, ns ++ [z], rfl, ⟨by obtain ⟨y, y', e, r⟩ := hpz.ex; exact ⟨y, y', by rw [upd_ne (Ne.symm pa)]; exact e, r⟩⟩, by rw [upd_same, List.map_append]; rfl, by simp [hln], fun y hy => by
        rcases List.mem_append.mp hy with h | h
        · exact hw y h
        · simp at h; omega⟩⟩
    obtain ⟨t2, ns, rfl, hpp, hnn, hln, hw⟩ := h.h
    have hc : Ctl ns := ⟨hln, hw⟩
    clear h hpa ea hln hw
    walk_at "rd"
    intro H2 s2
    have hnn2 := s2 _ _ hnn
    have hp2 := hpp.same s2
    clear hnn hpp s2
    walk_at "rd"
    intro ft H3 fft eft s3
    have hnn3 := s3 _ _ hnn2
    have hp3 := hp2.same s3
    clear hnn2 hp2 s3 fft
    walk_at "rd"
    intro o1 f1
    walk_at "rd"
    intro o2 f2
    walk_at "rd"
    intro o3 f3
    walk_at "rd"
    intro o4 f4
    have sm := Hx.Same.upd (o := .lst ([V.int 1] ++ (List.replicate (7 : Int).toNat [V.int 0]).flatten)) (Hx.Same.upd (o := .lst (List.replicate (7 : Int).toNat [V.int 0]).flatten) (Hx.Same.upd (o := .lst [V.int 0]) (same_upd (o := .lst [V.int 1]) f1) f2) f3) f4
    have D1 : Dp K (upd (upd (upd (upd H3 o1 (.lst [V.int 1])) o2 (.lst [V.int 0])) o3 (.lst (List.replicate (7 : Int).toNat [V.int 0]).flatten)) o4 (.lst ([V.int 1] ++ (List.replicate (7 : Int).toNat [V.int 0]).flatten))) (.ref ft) (.list ([1, 0, 0, 0, 0, 0, 0, 0].map PyData.int)) := .lst (SqL.of (sm _ _ eft)) (dp_ints _)
    have D2 : Dp K (upd (upd (upd (upd H3 o1 (.lst [V.int 1])) o2 (.lst [V.int 0])) o3 (.lst (List.replicate (7 : Int).toNat [V.int 0]).flatten)) o4 (.lst ([V.int 1] ++ (List.replicate (7 : Int).toNat [V.int 0]).flatten))) (.ref o4) (.list ([1, 0, 0, 0, 0, 0, 0, 0].map PyData.int)) := .lst (SqL.of upd_same) (dp_ints [1, 0, 0, 0, 0, 0, 0, 0])
    have SH := sh_ints [1, 0, 0, 0, 0, 0, 0, 0]
    replace hnn3 := sm _ _ hnn3
    replace hp3 := hp3.same sm
    clear eft f1 f2 f3 f4 sm
    walk_at "rd"
    clear D1 D2 SH
    generalize (upd (upd (upd (upd H3 o1 (.lst [V.int 1])) o2 (.lst [V.int 0])) o3 (.lst (List.replicate (7 : Int).toNat [V.int 0]).flatten)) o4 (.lst ([V.int 1] ++ (List.replicate (7 : Int).toNat [V.int 0]).flatten))) = H4 at hnn3 hp3 ⊢
    refine ⟨for_range (n := 6) (fun i σ H' => Stop (∃ (a : Addr) (ns : List Int) (t2 t3 t4 t5 t6 t7 t8 : Option V), σ = [some (.ref p), some (.ref a), t2, t3, t4, t5, t6, t7, t8, none] ∧ Pot H' p ∧ H' a = some (.lst (ns.map V.int)) ∧ Ctl ns)) ⟨⟨a, ns, _, _, _, _, _, _, _, rfl, hp3, hnn3, hc⟩⟩ (fun i σ H' hi h => ?_) (fun σ H' h => ?_)⟩
    · clear hnn3 hp3 hc pa
      obtain ⟨a, ns, t2, t3, t4, t5, t6, t7, t8, rfl, hpp, hnn, hc⟩ := h.h
      have pa := hpp.ctl hnn hc
      have Da : Dp K H' (.ref a) (.list (ns.map PyData.int)) := .lst (SqL.of hnn) (dp_ints ns)
      obtain ⟨r1, r2, r3, r4⟩ := shown_words (ns := ns) (fun z hz => by have := hc.wd z hz; omega) (by have := hc.len; omega)
      clear h
      walk_at "rd"
      intro d0 Hd d00 d01 hpd bd
      replace hnn := bd _ _ pa hnn
      clear Da bd hpp
      walk_at "rd"
      refine iteD (fun hd => ?_) (fun hd => ?_)
      · walk_at "rd"
        intro c0 Hc c00 c01 hpc bc
        replace hnn := bc _ _ pa hnn
        clear bc hpd
        walk_at "rd"
        intro h0 Hh h00 h01 hph bh
        replace hnn := bh _ _ pa hnn
        clear bh hpc
        walk_at "rd"
        intro b0 Hb b00 b01 hpb bb
        replace hnn := bb _ _ pa hnn
        clear bb hph
        have hq : Sq K Hb a (ns.map V.int) := .inl hnn
        have hc31 : 1 ≤ 1 + c0 ∧ 1 + c0 ≤ 31 := by omega
        have hh4 : 0 ≤ h0 ∧ h0 < 4096 := ⟨h00, h01⟩
        have hb4 : 0 ≤ b0 ∧ b0 < 4096 := ⟨b00, b01⟩
        walk_at "rd"
        intro t Ht ft et st
        replace hnn := st _ _ hnn
        replace hpb := hpb.same st
        have hm := ctl_trp hc hc31 hh4 hb4
        clear hq st ft
        walk_at "rd"
        intro u Hu fu eu su
        have D1 : Dp K Hu (.ref t) (.list ((trp ns (1 + c0) h0 b0).map PyData.int)) := .lst (SqL.of (su _ _ et)) (dp_ints _)
        have D2 : Dp K Hu (.ref u) (.list ((trp ns (1 + c0) h0 b0).map PyData.int)) := .lst (SqL.of eu) (dp_ints _)
        have SH := sh_ints (trp ns (1 + c0) h0 b0)
        replace hnn := su _ _ hnn
        replace et := su _ _ et
        replace hpb := hpb.same su
        clear su fu eu
        walk_at "rd"
        refine Or.inl ⟨SqL.of hnn, fun tt ht => ?_⟩
        have hqt : Sq K (upd Hu tt (.tup (ns.map V.int))) tt (ns.map V.int) := .inr upd_same
        have smt := same_upd (o := .tup (ns.map V.int)) ht
        replace hnn := smt _ _ hnn
        replace et := smt _ _ et
        replace hpb := hpb.same smt
        replace D1 := dp_same smt _ _ D1
        clear D2 ht smt
        generalize upd Hu tt (.tup (ns.map V.int)) = Hv at hqt hnn et hpb D1 ⊢
        walk_at "rd"
        intro u2 Hw fu2 eu2 sw
        replace D1 := dp_same sw _ _ D1
        have D2 : Dp K Hw (.ref u2) (.list ((trp ns (1 + c0) h0 b0).map PyData.int)) := .lst (SqL.of eu2) (dp_ints _)
        replace hnn := sw _ _ hnn
        replace et := sw _ _ et
        replace hpb := hpb.same sw
        clear sw fu2 eu2 hqt
        have hqk : Sq K Hw t ((trp ns (1 + c0) h0 b0).map V.int) := .inl et
        walk_at "rd"
        intro bk Hk fk ek sk
        replace hnn := sk _ _ hnn
        replace et := sk _ _ et
        replace hpb := hpb.same sk
        clear sk fk D1 D2 SH hqk
        have hmb := ctl_rtd hm
        have a0 := at0 hc
        have b0' := at0 hmb
        walk_at "rd"
        refine iteN (fun h => absurd (congrArg V.int (back0 ns (1 + c0) h0 b0)) h) (fun _ => ?_)
        clear a0 b0'
        walk_at "rd"
        intro o1 f1
        have ec1 : cutV ((rtd (trp ns (1 + c0) h0 b0)).map V.int) (some 4) none = (ns.drop 4).map V.int := (cut_from _ 4).trans (by rw [← List.map_drop]; rfl)
        rw [ec1]
        have hnn1 := old_upd (o := .lst ((ns.drop 4).map V.int)) f1 hnn
        walk_at "rd"
        intro o2 f2
        have ec2 : cutV (ns.map V.int) (some 4) none = (ns.drop 4).map V.int := (cut_from _ 4).trans List.map_drop.symm
        rw [ec2]
        have sm := Hx.Same.upd (o := .lst ((ns.drop 4).map V.int)) (same_upd (o := .lst ((ns.drop 4).map V.int)) f1) f2
        have D1 : Dp K (upd (upd Hk o1 (.lst ((ns.drop 4).map V.int))) o2 (.lst ((ns.drop 4).map V.int))) (.ref o1) (.list ((ns.drop 4).map PyData.int)) := .lst (SqL.of (old_upd f2 upd_same)) (dp_ints _)
        have D2 : Dp K (upd (upd Hk o1 (.lst ((ns.drop 4).map V.int))) o2 (.lst ((ns.drop 4).map V.int))) (.ref o2) (.list ((ns.drop 4).map PyData.int)) := .lst (SqL.of upd_same) (dp_ints _)
        have SH := sh_ints (ns.drop 4)
        replace hnn := sm _ _ hnn
        replace et := sm _ _ et
        replace ek := sm _ _ ek
        replace hpb := hpb.same sm
        clear f1 f2 sm hnn1 ec1 ec2
        generalize upd (upd Hk o1 (.lst ((ns.drop 4).map V.int))) o2 (.lst ((ns.drop 4).map V.int)) = Hm at D1 D2 hnn et ek hpb ⊢
        have hqb : Sq K Hm bk ((rtd (trp ns (1 + c0) h0 b0)).map V.int) := .inl ek
        walk_at "rd"
        intro Hq sx
        replace hnn := sx _ _ hnn
        replace et := sx _ _ et
        replace hpb := hpb.same sx
        have Da : Dp K Hq (.ref a) (.list (ns.map PyData.int)) := .lst (SqL.of hnn) (dp_ints ns)
        clear D1 D2 SH ek sx hqb hmb
        walk_at "rd"
        refine iteN (fun h => absurd (congrArg V.int (Int.emod_eq_of_lt h00 h01)) h) (fun _ => ?_)
        walk_at "rd"
        refine iteN (fun h => absurd rfl h) (fun _ => ?_)
        walk_at "rd"
        intro Hz sz
        walk_at "rd"
        exact ⟨⟨t, trp ns (1 + c0) h0 b0, _, _, _, _, _, _, _, rfl, hpb.same sz, sz _ _ et, hm⟩⟩
      · have hq : Sq K Hd a (ns.map V.int) := .inl hnn
        walk_at "rd"
        intro t Ht ft et st
        replace hnn := st _ _ hnn
        replace hpd := hpd.same st
        have hm := ctl_rtd hc
        clear hq st ft
        walk_at "rd"
        intro u Hu fu eu su
        have D1 : Dp K Hu (.ref t) (.list ((rtd ns).map PyData.int)) := .lst (SqL.of (su _ _ et)) (dp_ints _)
        have D2 : Dp K Hu (.ref u) (.list ((rtd ns).map PyData.int)) := .lst (SqL.of eu) (dp_ints _)
        have SH := sh_ints (rtd ns)
        replace hnn := su _ _ hnn
        replace et := su _ _ et
        replace hpd := hpd.same su
        clear su fu eu
        walk_at "rd"
        refine Or.inl ⟨SqL.of hnn, fun tt ht => ?_⟩
        have hqt : Sq K (upd Hu tt (.tup (ns.map V.int))) tt (ns.map V.int) := .inr upd_same
        have smt := same_upd (o := .tup (ns.map V.int)) ht
        replace hnn := smt _ _ hnn
        replace et := smt _ _ et
        replace hpd := hpd.same smt
        replace D1 := dp_same smt _ _ D1
        clear D2 ht smt
        generalize upd Hu tt (.tup (ns.map V.int)) = Hv at hqt hnn et hpd D1 ⊢
        walk_at "rd"
        intro u2 Hw fu2 eu2 sw
        replace D1 := dp_same sw _ _ D1
        have D2 : Dp K Hw (.ref u2) (.list ((rtd ns).map PyData.int)) := .lst (SqL.of eu2) (dp_ints _)
        replace hnn := sw _ _ hnn
        replace et := sw _ _ et
        replace hpd := hpd.same sw
        clear sw fu2 eu2 hqt
        have Da : Dp K Hw (.ref a) (.list (ns.map PyData.int)) := .lst (SqL.of hnn) (dp_ints ns)
        walk_at "rd"
        refine iteN (fun h => absurd rfl h) (fun _ => ?_)
        walk_at "rd"
        intro Hz sz
        walk_at "rd"
        exact ⟨⟨t, rtd ns, _, _, _, _, _, _, _, rfl, hpd.same sz, sz _ _ et, hm⟩⟩
    obtain ⟨a, ns, t2, t3, t4, t5, t6, t7, t8, rfl, hpp, hnn, hc⟩ := h.h
    clear h hpp hnn hc hnn3 hp3
    walk_at "rd"
    intro u5 H5 f5 e5 s5
    have sz : ([1, 0, 0, 0, 0, 0, 0, 0].map V.int).length < sizeLine := size_lt (Nat.le_of_ble_eq_true rfl)
    walk_at "rd"
    intro u6 H6 f6 e6 s6
    walk_at "rd"
    exact qbl (k _) (decide_eq_true rfl)
end
end K41

set_option Elab.async false
set_option linter.all false
set_option maxRecDepth 100000
set_option maxHeartbeats 8000000

namespace K41
open PySem PySem.Spec PyProof.Rows L2 Hx 
local macro_rules | `(tactic| walk_at "sm") => `(tactic| repeat' (first | assumption | apply Hx.Same.upd | exact L2.Same.refl _ | apply same_trans'))
local macro_rules | `(tactic| walk_at "hp") => `(tactic| repeat' (first | assumption | exact upd_same | apply old_upd | apply same_at))
local macro_rules | `(tactic| walk_at "rd") => `(tactic| repeat' (first | rfl | apply Exists.intro | apply And.intro | refine iteT ?_ | refine iteF ?_ | exact upd_same | exact SqL.of (by assumption) | exact SqL.of upd_same | exact SqT.of upd_same | exact SqT.of (by assumption) | ((with_reducible show (_ : Int) < _); omega) | ((with_reducible show (_ : Int) ≤ _); omega) | (show (_ : Prop); assumption) | exact Or.inl ⟨_, by assumption, rfl⟩ | exact Or.inl ⟨rfl, _, SqL.of (by assumption)⟩ | exact Or.inl ⟨rfl, _, SqL.of upd_same⟩ | apply old_upd | apply Hx.SqL.new | apply tyl_new | apply Pot.new | exact same_at (by assumption) (by assumption) | exact Or.inl (SqL.of (by assumption)) | exact Or.inl (by assumption) | exact Or.inl (SqL.of upd_same) | exact size_le (Nat.le_of_ble_eq_true rfl) | exact Nat.le_of_ble_eq_true rfl | exact True.intro | exact Or.inl rfl | exact Or.inr rfl | (show (_ : Prop); omega) | (show (_ : Prop); dsimp only; omega) | exact mulw64 (by omega) (by omega) | exact mulw64 (by (try dsimp only); omega) (by (try dsimp only); omega)))

section
variable {P : Program} {w : World} {K : PySem.W.Frag} {mg : Str → Option Value} {base : Heap}
def sp_law (K : PySem.W.Frag) : Sp := fun vs H Q _ => ∃ (a : Addr) (ns : List Int), vs = [.ref a] ∧ SqL K H a (ns.map V.int) ∧ ns.length ≤ 63 ∧ ∀ H', Q (.bl true) H'
theorem ok_law (T : Txt K mg) : FnG P w K mg base 11 T.f_law T.fd_law ["_law_script"] (sp_law K) := by
  have G_Lright := ok_Lright (P := P) (w := w) (base := base) T
  have G_Lpot := ok_Lpot (P := P) (w := w) (base := base) T
  refine fnG T.F_law sc_law (fun vs H Q E h => ?_) (fun cdv A outer s H vs Q E hr hg h => ?_)
  · obtain ⟨a, ns, rfl, hS, hl, k⟩ := h; rfl
  · obtain ⟨a, ns, rfl, hS, hl, k⟩ := h
    refine ⟨_, (pss_one (ps_ret (pe_callG (E := E0) hg G_Lright (hr.mono (by decide)) rfl T.g_Lright T.F_Lright.kp T.b_Lright (pa_cons (pe_call G_Lpot (hr.mono (by decide)) rfl T.g_Lpot T.F_Lpot.kp T.b_Lpot .nil pass0 (pa_cons (pv 0) (pa_cons pe_int pa_nil))) pa_nil)))), ?_⟩
    clear G_Lright G_Lpot
    clear hr hg
    walk_at "rd"
    intro p H1 hp s1 hpot
    walk_at "rd"
end
end K41

set_option Elab.async false
set_option linter.all false
set_option maxRecDepth 100000
set_option maxHeartbeats 8000000

namespace K41
open PySem PySem.Spec PyProof.Rows L2 Hx
theorem all_mk {l : PySem.W.OpenLaw} {w : World} {K : PySem.W.Frag} {h : Heap} {mg : Str → Option Value} {fa : Addr} (X : K.In h) (G : h.Ns mainGlobals mg) (hfa : mg "law" = some (.ref fa))
    {f_is_integer : Addr} {od_is_integer an_is_integer : Option Addr} {sl_is_integer : Array (Option Value)} {oc_is_integer kV_is_integer dc_is_integer pm_is_integer cd_is_integer ct_is_integer : Value}
    {f_is_between : Addr} {od_is_between an_is_between : Option Addr} {sl_is_between : Array (Option Value)} {oc_is_between kV_is_between dc_is_between pm_is_between cd_is_between ct_is_between : Value}
    {f_is_list : Addr} {od_is_list an_is_list : Option Addr} {sl_is_list : Array (Option Value)} {oc_is_list kV_is_list dc_is_list pm_is_list cd_is_list ct_is_list : Value}
    {f_need_cause : Addr} {od_need_cause an_need_cause : Option Addr} {sl_need_cause : Array (Option Value)} {oc_need_cause kV_need_cause dc_need_cause pm_need_cause cd_need_cause ct_need_cause : Value}
    {f_is_word : Addr} {od_is_word an_is_word : Option Addr} {sl_is_word : Array (Option Value)} {oc_is_word kV_is_word dc_is_word pm_is_word cd_is_word ct_is_word : Value}
    {f_is_address : Addr} {od_is_address an_is_address : Option Addr} {sl_is_address : Array (Option Value)} {oc_is_address kV_is_address dc_is_address pm_is_address cd_is_address ct_is_address : Value}
    {f_is_word_list : Addr} {od_is_word_list an_is_word_list : Option Addr} {sl_is_word_list : Array (Option Value)} {oc_is_word_list kV_is_word_list dc_is_word_list pm_is_word_list cd_is_word_list ct_is_word_list : Value}
    {f_need_word : Addr} {od_need_word an_need_word : Option Addr} {sl_need_word : Array (Option Value)} {oc_need_word kV_need_word dc_need_word pm_need_word cd_need_word ct_need_word : Value}
    {f_need_address : Addr} {od_need_address an_need_address : Option Addr} {sl_need_address : Array (Option Value)} {oc_need_address kV_need_address dc_need_address pm_need_address cd_need_address ct_need_address : Value}
    {f_need_bits : Addr} {od_need_bits an_need_bits : Option Addr} {sl_need_bits : Array (Option Value)} {oc_need_bits kV_need_bits dc_need_bits pm_need_bits cd_need_bits ct_need_bits : Value}
    {f_bits : Addr} {od_bits an_bits : Option Addr} {sl_bits : Array (Option Value)} {oc_bits kV_bits dc_bits pm_bits cd_bits ct_bits : Value}
    {f_with_bits : Addr} {od_with_bits an_with_bits : Option Addr} {sl_with_bits : Array (Option Value)} {oc_with_bits kV_with_bits dc_with_bits pm_with_bits cd_with_bits ct_with_bits : Value}
    {f_need_controls : Addr} {od_need_controls an_need_controls : Option Addr} {sl_need_controls : Array (Option Value)} {oc_need_controls kV_need_controls dc_need_controls pm_need_controls cd_need_controls ct_need_controls : Value}
    {f_fresh_controls : Addr} {od_fresh_controls an_fresh_controls : Option Addr} {sl_fresh_controls : Array (Option Value)} {oc_fresh_controls kV_fresh_controls dc_fresh_controls pm_fresh_controls cd_fresh_controls ct_fresh_controls : Value}
    {f_is_supervisor : Addr} {od_is_supervisor an_is_supervisor : Option Addr} {sl_is_supervisor : Array (Option Value)} {oc_is_supervisor kV_is_supervisor dc_is_supervisor pm_is_supervisor cd_is_supervisor ct_is_supervisor : Value}
    {f_is_on : Addr} {od_is_on an_is_on : Option Addr} {sl_is_on : Array (Option Value)} {oc_is_on kV_is_on dc_is_on pm_is_on cd_is_on ct_is_on : Value}
    {f_is_paged : Addr} {od_is_paged an_is_paged : Option Addr} {sl_is_paged : Array (Option Value)} {oc_is_paged kV_is_paged dc_is_paged pm_is_paged cd_is_paged ct_is_paged : Value}
    {f_entry_address : Addr} {od_entry_address an_entry_address : Option Addr} {sl_entry_address : Array (Option Value)} {oc_entry_address kV_entry_address dc_entry_address pm_entry_address cd_entry_address ct_entry_address : Value}
    {f_home_address : Addr} {od_home_address an_home_address : Option Addr} {sl_home_address : Array (Option Value)} {oc_home_address kV_home_address dc_home_address pm_home_address cd_home_address ct_home_address : Value}
    {f_root_frame : Addr} {od_root_frame an_root_frame : Option Addr} {sl_root_frame : Array (Option Value)} {oc_root_frame kV_root_frame dc_root_frame pm_root_frame cd_root_frame ct_root_frame : Value}
    {f_line_mask : Addr} {od_line_mask an_line_mask : Option Addr} {sl_line_mask : Array (Option Value)} {oc_line_mask kV_line_mask dc_line_mask pm_line_mask cd_line_mask ct_line_mask : Value}
    {f_trapped : Addr} {od_trapped an_trapped : Option Addr} {sl_trapped : Array (Option Value)} {oc_trapped kV_trapped dc_trapped pm_trapped cd_trapped ct_trapped : Value}
    {f_returned : Addr} {od_returned an_returned : Option Addr} {sl_returned : Array (Option Value)} {oc_returned kV_returned dc_returned pm_returned cd_returned ct_returned : Value}
    {f__status_bit : Addr} {od__status_bit an__status_bit : Option Addr} {sl__status_bit : Array (Option Value)} {oc__status_bit kV__status_bit dc__status_bit pm__status_bit cd__status_bit ct__status_bit : Value}
    {f__with_side : Addr} {od__with_side an__with_side : Option Addr} {sl__with_side : Array (Option Value)} {oc__with_side kV__with_side dc__with_side pm__with_side cd__with_side ct__with_side : Value}
    {f_Lpot : Addr} {od_Lpot an_Lpot : Option Addr} {sl_Lpot : Array (Option Value)} {oc_Lpot kV_Lpot dc_Lpot pm_Lpot cd_Lpot ct_Lpot : Value}
    {f_Ldraw : Addr} {od_Ldraw an_Ldraw : Option Addr} {sl_Ldraw : Array (Option Value)} {oc_Ldraw kV_Ldraw dc_Ldraw pm_Ldraw cd_Ldraw ct_Ldraw : Value}
    {f_Lpick : Addr} {od_Lpick an_Lpick : Option Addr} {sl_Lpick : Array (Option Value)} {oc_Lpick kV_Lpick dc_Lpick pm_Lpick cd_Lpick ct_Lpick : Value}
    {f_Lcontrol : Addr} {od_Lcontrol an_Lcontrol : Option Addr} {sl_Lcontrol : Array (Option Value)} {oc_Lcontrol kV_Lcontrol dc_Lcontrol pm_Lcontrol cd_Lcontrol ct_Lcontrol : Value}
    {f_Lbit : Addr} {od_Lbit an_Lbit : Option Addr} {sl_Lbit : Array (Option Value)} {oc_Lbit kV_Lbit dc_Lbit pm_Lbit cd_Lbit ct_Lbit : Value}
    {f_Ltrapped : Addr} {od_Ltrapped an_Ltrapped : Option Addr} {sl_Ltrapped : Array (Option Value)} {oc_Ltrapped kV_Ltrapped dc_Ltrapped pm_Ltrapped cd_Ltrapped ct_Ltrapped : Value}
    {f_Lreturned : Addr} {od_Lreturned an_Lreturned : Option Addr} {sl_Lreturned : Array (Option Value)} {oc_Lreturned kV_Lreturned dc_Lreturned pm_Lreturned cd_Lreturned ct_Lreturned : Value}
    {f_Lparts_right : Addr} {od_Lparts_right an_Lparts_right : Option Addr} {sl_Lparts_right : Array (Option Value)} {oc_Lparts_right kV_Lparts_right dc_Lparts_right pm_Lparts_right cd_Lparts_right ct_Lparts_right : Value}
    {f_Lright : Addr} {od_Lright an_Lright : Option Addr} {sl_Lright : Array (Option Value)} {oc_Lright kV_Lright dc_Lright pm_Lright cd_Lright ct_Lright : Value}
    {f_law : Addr} {od_law an_law : Option Addr} {sl_law : Array (Option Value)} {oc_law kV_law dc_law pm_law cd_law ct_law : Value}
    {t__GREATEST_CAUSE : Tok}
    {t__WORD_BITS : Tok}
    {t_WORDS : Tok}
    {t_ADDRESSES : Tok}
    {t__CONTROLS : Tok}
    {t__STATUS : Tok}
    {t__CAUSE : Tok}
    {t__HOME : Tok}
    {t__BAD : Tok}
    {t__ENTRY : Tok}
    {t__ROOT : Tok}
    {t__MASK : Tok}
    {t__SUPERVISOR_BIT : Tok}
    {t__ON_BIT : Tok}
    {t__OLD_BIT : Tok}
    {t__SIDE_BITS : Tok}
    {t__PAGED_BIT : Tok}
    {t__FRESH_STATUS : Tok}
    {t__TRAPPED_SIDE : Tok}
    {t__FRAME_BITS : Tok}
    {t__LINES : Tok}
    (a_is_integer : PySem.W.nsIn K mainGlobals "is_integer" = some (some (.ref f_is_integer)))
    (l_is_integer : K.lookup f_is_integer = some ⟨oc_is_integer, od_is_integer, .func (PySem.W.fnOf "is_integer" "is_integer" (defArgs s_is_integer) (defBody s_is_integer) (defScope s_is_integer) .none kV_is_integer dc_is_integer pm_is_integer an_is_integer cd_is_integer ct_is_integer), sl_is_integer⟩)
    (c_is_integer : PySem.W.codeIn K cd_is_integer "is_integer" = true) (k_is_integer : PySem.W.keepIn K (.ref f_is_integer) = true)
    (a_is_between : PySem.W.nsIn K mainGlobals "is_between" = some (some (.ref f_is_between)))
    (l_is_between : K.lookup f_is_between = some ⟨oc_is_between, od_is_between, .func (PySem.W.fnOf "is_between" "is_between" (defArgs s_is_between) (defBody s_is_between) (defScope s_is_between) .none kV_is_between dc_is_between pm_is_between an_is_between cd_is_between ct_is_between), sl_is_between⟩)
    (c_is_between : PySem.W.codeIn K cd_is_between "is_between" = true) (k_is_between : PySem.W.keepIn K (.ref f_is_between) = true)
    (a_is_list : PySem.W.nsIn K mainGlobals "is_list" = some (some (.ref f_is_list)))
    (l_is_list : K.lookup f_is_list = some ⟨oc_is_list, od_is_list, .func (PySem.W.fnOf "is_list" "is_list" (defArgs s_is_list) (defBody s_is_list) (defScope s_is_list) .none kV_is_list dc_is_list pm_is_list an_is_list cd_is_list ct_is_list), sl_is_list⟩)
    (c_is_list : PySem.W.codeIn K cd_is_list "is_list" = true) (k_is_list : PySem.W.keepIn K (.ref f_is_list) = true)
    (a_need_cause : PySem.W.nsIn K mainGlobals "need_cause" = some (some (.ref f_need_cause)))
    (l_need_cause : K.lookup f_need_cause = some ⟨oc_need_cause, od_need_cause, .func (PySem.W.fnOf "need_cause" "need_cause" (defArgs s_need_cause) (defBody s_need_cause) (defScope s_need_cause) .none kV_need_cause dc_need_cause pm_need_cause an_need_cause cd_need_cause ct_need_cause), sl_need_cause⟩)
    (c_need_cause : PySem.W.codeIn K cd_need_cause "need_cause" = true) (k_need_cause : PySem.W.keepIn K (.ref f_need_cause) = true)
    (a_is_word : PySem.W.nsIn K mainGlobals "is_word" = some (some (.ref f_is_word)))
    (l_is_word : K.lookup f_is_word = some ⟨oc_is_word, od_is_word, .func (PySem.W.fnOf "is_word" "is_word" (defArgs s_is_word) (defBody s_is_word) (defScope s_is_word) .none kV_is_word dc_is_word pm_is_word an_is_word cd_is_word ct_is_word), sl_is_word⟩)
    (c_is_word : PySem.W.codeIn K cd_is_word "is_word" = true) (k_is_word : PySem.W.keepIn K (.ref f_is_word) = true)
    (a_is_address : PySem.W.nsIn K mainGlobals "is_address" = some (some (.ref f_is_address)))
    (l_is_address : K.lookup f_is_address = some ⟨oc_is_address, od_is_address, .func (PySem.W.fnOf "is_address" "is_address" (defArgs s_is_address) (defBody s_is_address) (defScope s_is_address) .none kV_is_address dc_is_address pm_is_address an_is_address cd_is_address ct_is_address), sl_is_address⟩)
    (c_is_address : PySem.W.codeIn K cd_is_address "is_address" = true) (k_is_address : PySem.W.keepIn K (.ref f_is_address) = true)
    (a_is_word_list : PySem.W.nsIn K mainGlobals "is_word_list" = some (some (.ref f_is_word_list)))
    (l_is_word_list : K.lookup f_is_word_list = some ⟨oc_is_word_list, od_is_word_list, .func (PySem.W.fnOf "is_word_list" "is_word_list" (defArgs s_is_word_list) (defBody s_is_word_list) (defScope s_is_word_list) .none kV_is_word_list dc_is_word_list pm_is_word_list an_is_word_list cd_is_word_list ct_is_word_list), sl_is_word_list⟩)
    (c_is_word_list : PySem.W.codeIn K cd_is_word_list "is_word_list" = true) (k_is_word_list : PySem.W.keepIn K (.ref f_is_word_list) = true)
    (a_need_word : PySem.W.nsIn K mainGlobals "need_word" = some (some (.ref f_need_word)))
    (l_need_word : K.lookup f_need_word = some ⟨oc_need_word, od_need_word, .func (PySem.W.fnOf "need_word" "need_word" (defArgs s_need_word) (defBody s_need_word) (defScope s_need_word) .none kV_need_word dc_need_word pm_need_word an_need_word cd_need_word ct_need_word), sl_need_word⟩)
    (c_need_word : PySem.W.codeIn K cd_need_word "need_word" = true) (k_need_word : PySem.W.keepIn K (.ref f_need_word) = true)
    (a_need_address : PySem.W.nsIn K mainGlobals "need_address" = some (some (.ref f_need_address)))
    (l_need_address : K.lookup f_need_address = some ⟨oc_need_address, od_need_address, .func (PySem.W.fnOf "need_address" "need_address" (defArgs s_need_address) (defBody s_need_address) (defScope s_need_address) .none kV_need_address dc_need_address pm_need_address an_need_address cd_need_address ct_need_address), sl_need_address⟩)
    (c_need_address : PySem.W.codeIn K cd_need_address "need_address" = true) (k_need_address : PySem.W.keepIn K (.ref f_need_address) = true)
    (a_need_bits : PySem.W.nsIn K mainGlobals "need_bits" = some (some (.ref f_need_bits)))
    (l_need_bits : K.lookup f_need_bits = some ⟨oc_need_bits, od_need_bits, .func (PySem.W.fnOf "need_bits" "need_bits" (defArgs s_need_bits) (defBody s_need_bits) (defScope s_need_bits) .none kV_need_bits dc_need_bits pm_need_bits an_need_bits cd_need_bits ct_need_bits), sl_need_bits⟩)
    (c_need_bits : PySem.W.codeIn K cd_need_bits "need_bits" = true) (k_need_bits : PySem.W.keepIn K (.ref f_need_bits) = true)
    (a_bits : PySem.W.nsIn K mainGlobals "bits" = some (some (.ref f_bits)))
    (l_bits : K.lookup f_bits = some ⟨oc_bits, od_bits, .func (PySem.W.fnOf "bits" "bits" (defArgs s_bits) (defBody s_bits) (defScope s_bits) .none kV_bits dc_bits pm_bits an_bits cd_bits ct_bits), sl_bits⟩)
    (c_bits : PySem.W.codeIn K cd_bits "bits" = true) (k_bits : PySem.W.keepIn K (.ref f_bits) = true)
    (a_with_bits : PySem.W.nsIn K mainGlobals "with_bits" = some (some (.ref f_with_bits)))
    (l_with_bits : K.lookup f_with_bits = some ⟨oc_with_bits, od_with_bits, .func (PySem.W.fnOf "with_bits" "with_bits" (defArgs s_with_bits) (defBody s_with_bits) (defScope s_with_bits) .none kV_with_bits dc_with_bits pm_with_bits an_with_bits cd_with_bits ct_with_bits), sl_with_bits⟩)
    (c_with_bits : PySem.W.codeIn K cd_with_bits "with_bits" = true) (k_with_bits : PySem.W.keepIn K (.ref f_with_bits) = true)
    (a_need_controls : PySem.W.nsIn K mainGlobals "need_controls" = some (some (.ref f_need_controls)))
    (l_need_controls : K.lookup f_need_controls = some ⟨oc_need_controls, od_need_controls, .func (PySem.W.fnOf "need_controls" "need_controls" (defArgs s_need_controls) (defBody s_need_controls) (defScope s_need_controls) .none kV_need_controls dc_need_controls pm_need_controls an_need_controls cd_need_controls ct_need_controls), sl_need_controls⟩)
    (c_need_controls : PySem.W.codeIn K cd_need_controls "need_controls" = true) (k_need_controls : PySem.W.keepIn K (.ref f_need_controls) = true)
    (a_fresh_controls : PySem.W.nsIn K mainGlobals "fresh_controls" = some (some (.ref f_fresh_controls)))
    (l_fresh_controls : K.lookup f_fresh_controls = some ⟨oc_fresh_controls, od_fresh_controls, .func (PySem.W.fnOf "fresh_controls" "fresh_controls" (defArgs s_fresh_controls) (defBody s_fresh_controls) (defScope s_fresh_controls) .none kV_fresh_controls dc_fresh_controls pm_fresh_controls an_fresh_controls cd_fresh_controls ct_fresh_controls), sl_fresh_controls⟩)
    (c_fresh_controls : PySem.W.codeIn K cd_fresh_controls "fresh_controls" = true) (k_fresh_controls : PySem.W.keepIn K (.ref f_fresh_controls) = true)
    (a_is_supervisor : PySem.W.nsIn K mainGlobals "is_supervisor" = some (some (.ref f_is_supervisor)))
    (l_is_supervisor : K.lookup f_is_supervisor = some ⟨oc_is_supervisor, od_is_supervisor, .func (PySem.W.fnOf "is_supervisor" "is_supervisor" (defArgs s_is_supervisor) (defBody s_is_supervisor) (defScope s_is_supervisor) .none kV_is_supervisor dc_is_supervisor pm_is_supervisor an_is_supervisor cd_is_supervisor ct_is_supervisor), sl_is_supervisor⟩)
    (c_is_supervisor : PySem.W.codeIn K cd_is_supervisor "is_supervisor" = true) (k_is_supervisor : PySem.W.keepIn K (.ref f_is_supervisor) = true)
    (a_is_on : PySem.W.nsIn K mainGlobals "is_on" = some (some (.ref f_is_on)))
    (l_is_on : K.lookup f_is_on = some ⟨oc_is_on, od_is_on, .func (PySem.W.fnOf "is_on" "is_on" (defArgs s_is_on) (defBody s_is_on) (defScope s_is_on) .none kV_is_on dc_is_on pm_is_on an_is_on cd_is_on ct_is_on), sl_is_on⟩)
    (c_is_on : PySem.W.codeIn K cd_is_on "is_on" = true) (k_is_on : PySem.W.keepIn K (.ref f_is_on) = true)
    (a_is_paged : PySem.W.nsIn K mainGlobals "is_paged" = some (some (.ref f_is_paged)))
    (l_is_paged : K.lookup f_is_paged = some ⟨oc_is_paged, od_is_paged, .func (PySem.W.fnOf "is_paged" "is_paged" (defArgs s_is_paged) (defBody s_is_paged) (defScope s_is_paged) .none kV_is_paged dc_is_paged pm_is_paged an_is_paged cd_is_paged ct_is_paged), sl_is_paged⟩)
    (c_is_paged : PySem.W.codeIn K cd_is_paged "is_paged" = true) (k_is_paged : PySem.W.keepIn K (.ref f_is_paged) = true)
    (a_entry_address : PySem.W.nsIn K mainGlobals "entry_address" = some (some (.ref f_entry_address)))
    (l_entry_address : K.lookup f_entry_address = some ⟨oc_entry_address, od_entry_address, .func (PySem.W.fnOf "entry_address" "entry_address" (defArgs s_entry_address) (defBody s_entry_address) (defScope s_entry_address) .none kV_entry_address dc_entry_address pm_entry_address an_entry_address cd_entry_address ct_entry_address), sl_entry_address⟩)
    (c_entry_address : PySem.W.codeIn K cd_entry_address "entry_address" = true) (k_entry_address : PySem.W.keepIn K (.ref f_entry_address) = true)
    (a_home_address : PySem.W.nsIn K mainGlobals "home_address" = some (some (.ref f_home_address)))
    (l_home_address : K.lookup f_home_address = some ⟨oc_home_address, od_home_address, .func (PySem.W.fnOf "home_address" "home_address" (defArgs s_home_address) (defBody s_home_address) (defScope s_home_address) .none kV_home_address dc_home_address pm_home_address an_home_address cd_home_address ct_home_address), sl_home_address⟩)
    (c_home_address : PySem.W.codeIn K cd_home_address "home_address" = true) (k_home_address : PySem.W.keepIn K (.ref f_home_address) = true)
    (a_root_frame : PySem.W.nsIn K mainGlobals "root_frame" = some (some (.ref f_root_frame)))
    (l_root_frame : K.lookup f_root_frame = some ⟨oc_root_frame, od_root_frame, .func (PySem.W.fnOf "root_frame" "root_frame" (defArgs s_root_frame) (defBody s_root_frame) (defScope s_root_frame) .none kV_root_frame dc_root_frame pm_root_frame an_root_frame cd_root_frame ct_root_frame), sl_root_frame⟩)
    (c_root_frame : PySem.W.codeIn K cd_root_frame "root_frame" = true) (k_root_frame : PySem.W.keepIn K (.ref f_root_frame) = true)
    (a_line_mask : PySem.W.nsIn K mainGlobals "line_mask" = some (some (.ref f_line_mask)))
    (l_line_mask : K.lookup f_line_mask = some ⟨oc_line_mask, od_line_mask, .func (PySem.W.fnOf "line_mask" "line_mask" (defArgs s_line_mask) (defBody s_line_mask) (defScope s_line_mask) .none kV_line_mask dc_line_mask pm_line_mask an_line_mask cd_line_mask ct_line_mask), sl_line_mask⟩)
    (c_line_mask : PySem.W.codeIn K cd_line_mask "line_mask" = true) (k_line_mask : PySem.W.keepIn K (.ref f_line_mask) = true)
    (a_trapped : PySem.W.nsIn K mainGlobals "trapped" = some (some (.ref f_trapped)))
    (l_trapped : K.lookup f_trapped = some ⟨oc_trapped, od_trapped, .func (PySem.W.fnOf "trapped" "trapped" (defArgs s_trapped) (defBody s_trapped) (defScope s_trapped) .none kV_trapped dc_trapped pm_trapped an_trapped cd_trapped ct_trapped), sl_trapped⟩)
    (c_trapped : PySem.W.codeIn K cd_trapped "trapped" = true) (k_trapped : PySem.W.keepIn K (.ref f_trapped) = true)
    (a_returned : PySem.W.nsIn K mainGlobals "returned" = some (some (.ref f_returned)))
    (l_returned : K.lookup f_returned = some ⟨oc_returned, od_returned, .func (PySem.W.fnOf "returned" "returned" (defArgs s_returned) (defBody s_returned) (defScope s_returned) .none kV_returned dc_returned pm_returned an_returned cd_returned ct_returned), sl_returned⟩)
    (c_returned : PySem.W.codeIn K cd_returned "returned" = true) (k_returned : PySem.W.keepIn K (.ref f_returned) = true)
    (a__status_bit : PySem.W.nsIn K mainGlobals "_status_bit" = some (some (.ref f__status_bit)))
    (l__status_bit : K.lookup f__status_bit = some ⟨oc__status_bit, od__status_bit, .func (PySem.W.fnOf "_status_bit" "_status_bit" (defArgs s__status_bit) (defBody s__status_bit) (defScope s__status_bit) .none kV__status_bit dc__status_bit pm__status_bit an__status_bit cd__status_bit ct__status_bit), sl__status_bit⟩)
    (c__status_bit : PySem.W.codeIn K cd__status_bit "_status_bit" = true) (k__status_bit : PySem.W.keepIn K (.ref f__status_bit) = true)
    (a__with_side : PySem.W.nsIn K mainGlobals "_with_side" = some (some (.ref f__with_side)))
    (l__with_side : K.lookup f__with_side = some ⟨oc__with_side, od__with_side, .func (PySem.W.fnOf "_with_side" "_with_side" (defArgs s__with_side) (defBody s__with_side) (defScope s__with_side) .none kV__with_side dc__with_side pm__with_side an__with_side cd__with_side ct__with_side), sl__with_side⟩)
    (c__with_side : PySem.W.codeIn K cd__with_side "_with_side" = true) (k__with_side : PySem.W.keepIn K (.ref f__with_side) = true)
    (a_Lpot : PySem.W.nsIn K mainGlobals "_law_pot" = some (some (.ref f_Lpot)))
    (l_Lpot : K.lookup f_Lpot = some ⟨oc_Lpot, od_Lpot, .func (PySem.W.fnOf "_law_pot" "_law_pot" (defArgs s_Lpot) (defBody s_Lpot) (defScope s_Lpot) .none kV_Lpot dc_Lpot pm_Lpot an_Lpot cd_Lpot ct_Lpot), sl_Lpot⟩)
    (c_Lpot : PySem.W.codeIn K cd_Lpot "_law_pot" = true) (k_Lpot : PySem.W.keepIn K (.ref f_Lpot) = true)
    (a_Ldraw : PySem.W.nsIn K mainGlobals "_law_draw" = some (some (.ref f_Ldraw)))
    (l_Ldraw : K.lookup f_Ldraw = some ⟨oc_Ldraw, od_Ldraw, .func (PySem.W.fnOf "_law_draw" "_law_draw" (defArgs s_Ldraw) (defBody s_Ldraw) (defScope s_Ldraw) .none kV_Ldraw dc_Ldraw pm_Ldraw an_Ldraw cd_Ldraw ct_Ldraw), sl_Ldraw⟩)
    (c_Ldraw : PySem.W.codeIn K cd_Ldraw "_law_draw" = true) (k_Ldraw : PySem.W.keepIn K (.ref f_Ldraw) = true)
    (a_Lpick : PySem.W.nsIn K mainGlobals "_law_pick" = some (some (.ref f_Lpick)))
    (l_Lpick : K.lookup f_Lpick = some ⟨oc_Lpick, od_Lpick, .func (PySem.W.fnOf "_law_pick" "_law_pick" (defArgs s_Lpick) (defBody s_Lpick) (defScope s_Lpick) .none kV_Lpick dc_Lpick pm_Lpick an_Lpick cd_Lpick ct_Lpick), sl_Lpick⟩)
    (c_Lpick : PySem.W.codeIn K cd_Lpick "_law_pick" = true) (k_Lpick : PySem.W.keepIn K (.ref f_Lpick) = true)
    (a_Lcontrol : PySem.W.nsIn K mainGlobals "_law_control" = some (some (.ref f_Lcontrol)))
    (l_Lcontrol : K.lookup f_Lcontrol = some ⟨oc_Lcontrol, od_Lcontrol, .func (PySem.W.fnOf "_law_control" "_law_control" (defArgs s_Lcontrol) (defBody s_Lcontrol) (defScope s_Lcontrol) .none kV_Lcontrol dc_Lcontrol pm_Lcontrol an_Lcontrol cd_Lcontrol ct_Lcontrol), sl_Lcontrol⟩)
    (c_Lcontrol : PySem.W.codeIn K cd_Lcontrol "_law_control" = true) (k_Lcontrol : PySem.W.keepIn K (.ref f_Lcontrol) = true)
    (a_Lbit : PySem.W.nsIn K mainGlobals "_law_bit" = some (some (.ref f_Lbit)))
    (l_Lbit : K.lookup f_Lbit = some ⟨oc_Lbit, od_Lbit, .func (PySem.W.fnOf "_law_bit" "_law_bit" (defArgs s_Lbit) (defBody s_Lbit) (defScope s_Lbit) .none kV_Lbit dc_Lbit pm_Lbit an_Lbit cd_Lbit ct_Lbit), sl_Lbit⟩)
    (c_Lbit : PySem.W.codeIn K cd_Lbit "_law_bit" = true) (k_Lbit : PySem.W.keepIn K (.ref f_Lbit) = true)
    (a_Ltrapped : PySem.W.nsIn K mainGlobals "_law_trapped" = some (some (.ref f_Ltrapped)))
    (l_Ltrapped : K.lookup f_Ltrapped = some ⟨oc_Ltrapped, od_Ltrapped, .func (PySem.W.fnOf "_law_trapped" "_law_trapped" (defArgs s_Ltrapped) (defBody s_Ltrapped) (defScope s_Ltrapped) .none kV_Ltrapped dc_Ltrapped pm_Ltrapped an_Ltrapped cd_Ltrapped ct_Ltrapped), sl_Ltrapped⟩)
    (c_Ltrapped : PySem.W.codeIn K cd_Ltrapped "_law_trapped" = true) (k_Ltrapped : PySem.W.keepIn K (.ref f_Ltrapped) = true)
    (a_Lreturned : PySem.W.nsIn K mainGlobals "_law_returned" = some (some (.ref f_Lreturned)))
    (l_Lreturned : K.lookup f_Lreturned = some ⟨oc_Lreturned, od_Lreturned, .func (PySem.W.fnOf "_law_returned" "_law_returned" (defArgs s_Lreturned) (defBody s_Lreturned) (defScope s_Lreturned) .none kV_Lreturned dc_Lreturned pm_Lreturned an_Lreturned cd_Lreturned ct_Lreturned), sl_Lreturned⟩)
    (c_Lreturned : PySem.W.codeIn K cd_Lreturned "_law_returned" = true) (k_Lreturned : PySem.W.keepIn K (.ref f_Lreturned) = true)
    (a_Lparts_right : PySem.W.nsIn K mainGlobals "_law_parts_right" = some (some (.ref f_Lparts_right)))
    (l_Lparts_right : K.lookup f_Lparts_right = some ⟨oc_Lparts_right, od_Lparts_right, .func (PySem.W.fnOf "_law_parts_right" "_law_parts_right" (defArgs s_Lparts_right) (defBody s_Lparts_right) (defScope s_Lparts_right) .none kV_Lparts_right dc_Lparts_right pm_Lparts_right an_Lparts_right cd_Lparts_right ct_Lparts_right), sl_Lparts_right⟩)
    (c_Lparts_right : PySem.W.codeIn K cd_Lparts_right "_law_parts_right" = true) (k_Lparts_right : PySem.W.keepIn K (.ref f_Lparts_right) = true)
    (a_Lright : PySem.W.nsIn K mainGlobals "_law_right" = some (some (.ref f_Lright)))
    (l_Lright : K.lookup f_Lright = some ⟨oc_Lright, od_Lright, .func (PySem.W.fnOf "_law_right" "_law_right" (defArgs s_Lright) (defBody s_Lright) (defScope s_Lright) .none kV_Lright dc_Lright pm_Lright an_Lright cd_Lright ct_Lright), sl_Lright⟩)
    (c_Lright : PySem.W.codeIn K cd_Lright "_law_right" = true) (k_Lright : PySem.W.keepIn K (.ref f_Lright) = true)
    (a_law : PySem.W.nsIn K mainGlobals "law" = some (some (.ref f_law)))
    (l_law : K.lookup f_law = some ⟨oc_law, od_law, .func (PySem.W.fnOf "law" "law" (defArgs s_law) (defBody s_law) (defScope s_law) .none kV_law dc_law pm_law an_law cd_law ct_law), sl_law⟩)
    (c_law : PySem.W.codeIn K cd_law "law" = true) (k_law : PySem.W.keepIn K (.ref f_law) = true)
    (z_abs : PySem.W.nsIn K mainGlobals "abs" = some none)
    (z_all : PySem.W.nsIn K mainGlobals "all" = some none)
    (z_bool : PySem.W.nsIn K mainGlobals "bool" = some none)
    (z_divmod : PySem.W.nsIn K mainGlobals "divmod" = some none)
    (z_int : PySem.W.nsIn K mainGlobals "int" = some none)
    (z_isinstance : PySem.W.nsIn K mainGlobals "isinstance" = some none)
    (z_len : PySem.W.nsIn K mainGlobals "len" = some none)
    (z_list : PySem.W.nsIn K mainGlobals "list" = some none)
    (z_max : PySem.W.nsIn K mainGlobals "max" = some none)
    (z_range : PySem.W.nsIn K mainGlobals "range" = some none)
    (z_repr : PySem.W.nsIn K mainGlobals "repr" = some none)
    (z_tuple : PySem.W.nsIn K mainGlobals "tuple" = some none)
    (x__GREATEST_CAUSE : PySem.W.nsIn K mainGlobals "_GREATEST_CAUSE" = some (some (.int 31 t__GREATEST_CAUSE)))
    (x__WORD_BITS : PySem.W.nsIn K mainGlobals "_WORD_BITS" = some (some (.int 16 t__WORD_BITS)))
    (x_WORDS : PySem.W.nsIn K mainGlobals "WORDS" = some (some (.int 65536 t_WORDS)))
    (x_ADDRESSES : PySem.W.nsIn K mainGlobals "ADDRESSES" = some (some (.int 4096 t_ADDRESSES)))
    (x__CONTROLS : PySem.W.nsIn K mainGlobals "_CONTROLS" = some (some (.int 8 t__CONTROLS)))
    (x__STATUS : PySem.W.nsIn K mainGlobals "_STATUS" = some (some (.int 0 t__STATUS)))
    (x__CAUSE : PySem.W.nsIn K mainGlobals "_CAUSE" = some (some (.int 1 t__CAUSE)))
    (x__HOME : PySem.W.nsIn K mainGlobals "_HOME" = some (some (.int 2 t__HOME)))
    (x__BAD : PySem.W.nsIn K mainGlobals "_BAD" = some (some (.int 3 t__BAD)))
    (x__ENTRY : PySem.W.nsIn K mainGlobals "_ENTRY" = some (some (.int 4 t__ENTRY)))
    (x__ROOT : PySem.W.nsIn K mainGlobals "_ROOT" = some (some (.int 5 t__ROOT)))
    (x__MASK : PySem.W.nsIn K mainGlobals "_MASK" = some (some (.int 6 t__MASK)))
    (x__SUPERVISOR_BIT : PySem.W.nsIn K mainGlobals "_SUPERVISOR_BIT" = some (some (.int 0 t__SUPERVISOR_BIT)))
    (x__ON_BIT : PySem.W.nsIn K mainGlobals "_ON_BIT" = some (some (.int 1 t__ON_BIT)))
    (x__OLD_BIT : PySem.W.nsIn K mainGlobals "_OLD_BIT" = some (some (.int 2 t__OLD_BIT)))
    (x__SIDE_BITS : PySem.W.nsIn K mainGlobals "_SIDE_BITS" = some (some (.int 2 t__SIDE_BITS)))
    (x__PAGED_BIT : PySem.W.nsIn K mainGlobals "_PAGED_BIT" = some (some (.int 4 t__PAGED_BIT)))
    (x__FRESH_STATUS : PySem.W.nsIn K mainGlobals "_FRESH_STATUS" = some (some (.int 1 t__FRESH_STATUS)))
    (x__TRAPPED_SIDE : PySem.W.nsIn K mainGlobals "_TRAPPED_SIDE" = some (some (.int 1 t__TRAPPED_SIDE)))
    (x__FRAME_BITS : PySem.W.nsIn K mainGlobals "_FRAME_BITS" = some (some (.int 6 t__FRAME_BITS)))
    (x__LINES : PySem.W.nsIn K mainGlobals "_LINES" = some (some (.int 4 t__LINES)))
    : ∃ fd : FuncData, (∀ (s : Shared) (v : Value), BindsTo s fd ⟨[v], []⟩ [("_law_script", v)]) ∧ ∀ base : Heap, K.In base → base.Ns mainGlobals mg → FnG l.prog w K mg base 11 fa fd ["_law_script"] (sp_law K) := by
  have e := hfa.symm.trans (PySem.W.mg_of X G a_law)
  cases e
  let T : Txt K mg := {
    f_is_integer := _, fd_is_integer := _, F_is_integer := fun_mk (st := s_is_integer) l_is_integer c_is_integer k_is_integer,
    g_is_integer := PySem.W.mg_of X G a_is_integer,
    b_is_integer := (fun_mk (st := s_is_integer) l_is_integer c_is_integer k_is_integer).binds (ps := ["value"]) fun _ _ _ _ _ _ us hl => match us, hl with | [_], _ => rfl,
    f_is_between := _, fd_is_between := _, F_is_between := fun_mk (st := s_is_between) l_is_between c_is_between k_is_between,
    g_is_between := PySem.W.mg_of X G a_is_between,
    b_is_between := (fun_mk (st := s_is_between) l_is_between c_is_between k_is_between).binds (ps := ["value", "least", "most"]) fun _ _ _ _ _ _ us hl => match us, hl with | [_, _, _], _ => rfl,
    f_is_list := _, fd_is_list := _, F_is_list := fun_mk (st := s_is_list) l_is_list c_is_list k_is_list,
    g_is_list := PySem.W.mg_of X G a_is_list,
    b_is_list := (fun_mk (st := s_is_list) l_is_list c_is_list k_is_list).binds (ps := ["value"]) fun _ _ _ _ _ _ us hl => match us, hl with | [_], _ => rfl,
    f_need_cause := _, fd_need_cause := _, F_need_cause := fun_mk (st := s_need_cause) l_need_cause c_need_cause k_need_cause,
    g_need_cause := PySem.W.mg_of X G a_need_cause,
    b_need_cause := (fun_mk (st := s_need_cause) l_need_cause c_need_cause k_need_cause).binds (ps := ["value"]) fun _ _ _ _ _ _ us hl => match us, hl with | [_], _ => rfl,
    f_is_word := _, fd_is_word := _, F_is_word := fun_mk (st := s_is_word) l_is_word c_is_word k_is_word,
    g_is_word := PySem.W.mg_of X G a_is_word,
    b_is_word := (fun_mk (st := s_is_word) l_is_word c_is_word k_is_word).binds (ps := ["value"]) fun _ _ _ _ _ _ us hl => match us, hl with | [_], _ => rfl,
    f_is_address := _, fd_is_address := _, F_is_address := fun_mk (st := s_is_address) l_is_address c_is_address k_is_address,
    g_is_address := PySem.W.mg_of X G a_is_address,
    b_is_address := (fun_mk (st := s_is_address) l_is_address c_is_address k_is_address).binds (ps := ["value"]) fun _ _ _ _ _ _ us hl => match us, hl with | [_], _ => rfl,
    f_is_word_list := _, fd_is_word_list := _, F_is_word_list := fun_mk (st := s_is_word_list) l_is_word_list c_is_word_list k_is_word_list,
    g_is_word_list := PySem.W.mg_of X G a_is_word_list,
    b_is_word_list := (fun_mk (st := s_is_word_list) l_is_word_list c_is_word_list k_is_word_list).binds (ps := ["value"]) fun _ _ _ _ _ _ us hl => match us, hl with | [_], _ => rfl,
    f_need_word := _, fd_need_word := _, F_need_word := fun_mk (st := s_need_word) l_need_word c_need_word k_need_word,
    g_need_word := PySem.W.mg_of X G a_need_word,
    b_need_word := (fun_mk (st := s_need_word) l_need_word c_need_word k_need_word).binds (ps := ["value"]) fun _ _ _ _ _ _ us hl => match us, hl with | [_], _ => rfl,
    f_need_address := _, fd_need_address := _, F_need_address := fun_mk (st := s_need_address) l_need_address c_need_address k_need_address,
    g_need_address := PySem.W.mg_of X G a_need_address,
    b_need_address := (fun_mk (st := s_need_address) l_need_address c_need_address k_need_address).binds (ps := ["value"]) fun _ _ _ _ _ _ us hl => match us, hl with | [_], _ => rfl,
    f_need_bits := _, fd_need_bits := _, F_need_bits := fun_mk (st := s_need_bits) l_need_bits c_need_bits k_need_bits,
    g_need_bits := PySem.W.mg_of X G a_need_bits,
    b_need_bits := (fun_mk (st := s_need_bits) l_need_bits c_need_bits k_need_bits).binds (ps := ["word", "low", "many"]) fun _ _ _ _ _ _ us hl => match us, hl with | [_, _, _], _ => rfl,
    f_bits := _, fd_bits := _, F_bits := fun_mk (st := s_bits) l_bits c_bits k_bits,
    g_bits := PySem.W.mg_of X G a_bits,
    b_bits := (fun_mk (st := s_bits) l_bits c_bits k_bits).binds (ps := ["word", "low", "many"]) fun _ _ _ _ _ _ us hl => match us, hl with | [_, _, _], _ => rfl,
    f_with_bits := _, fd_with_bits := _, F_with_bits := fun_mk (st := s_with_bits) l_with_bits c_with_bits k_with_bits,
    g_with_bits := PySem.W.mg_of X G a_with_bits,
    b_with_bits := (fun_mk (st := s_with_bits) l_with_bits c_with_bits k_with_bits).binds (ps := ["word", "low", "many", "value"]) fun _ _ _ _ _ _ us hl => match us, hl with | [_, _, _, _], _ => rfl,
    f_need_controls := _, fd_need_controls := _, F_need_controls := fun_mk (st := s_need_controls) l_need_controls c_need_controls k_need_controls,
    g_need_controls := PySem.W.mg_of X G a_need_controls,
    b_need_controls := (fun_mk (st := s_need_controls) l_need_controls c_need_controls k_need_controls).binds (ps := ["value"]) fun _ _ _ _ _ _ us hl => match us, hl with | [_], _ => rfl,
    f_fresh_controls := _, fd_fresh_controls := _, F_fresh_controls := fun_mk (st := s_fresh_controls) l_fresh_controls c_fresh_controls k_fresh_controls,
    g_fresh_controls := PySem.W.mg_of X G a_fresh_controls,
    b_fresh_controls := (fun_mk (st := s_fresh_controls) l_fresh_controls c_fresh_controls k_fresh_controls).binds (ps := []) fun _ _ _ _ _ _ us hl => match us, hl with | [], _ => rfl,
    f_is_supervisor := _, fd_is_supervisor := _, F_is_supervisor := fun_mk (st := s_is_supervisor) l_is_supervisor c_is_supervisor k_is_supervisor,
    g_is_supervisor := PySem.W.mg_of X G a_is_supervisor,
    b_is_supervisor := (fun_mk (st := s_is_supervisor) l_is_supervisor c_is_supervisor k_is_supervisor).binds (ps := ["controls"]) fun _ _ _ _ _ _ us hl => match us, hl with | [_], _ => rfl,
    f_is_on := _, fd_is_on := _, F_is_on := fun_mk (st := s_is_on) l_is_on c_is_on k_is_on,
    g_is_on := PySem.W.mg_of X G a_is_on,
    b_is_on := (fun_mk (st := s_is_on) l_is_on c_is_on k_is_on).binds (ps := ["controls"]) fun _ _ _ _ _ _ us hl => match us, hl with | [_], _ => rfl,
    f_is_paged := _, fd_is_paged := _, F_is_paged := fun_mk (st := s_is_paged) l_is_paged c_is_paged k_is_paged,
    g_is_paged := PySem.W.mg_of X G a_is_paged,
    b_is_paged := (fun_mk (st := s_is_paged) l_is_paged c_is_paged k_is_paged).binds (ps := ["controls"]) fun _ _ _ _ _ _ us hl => match us, hl with | [_], _ => rfl,
    kb_is_paged := kw_binds (fun_mk (st := s_is_paged) l_is_paged c_is_paged k_is_paged) (by decide) fun _ _ _ _ _ _ us hl => match us, hl with | [_], _ => rfl,
    f_entry_address := _, fd_entry_address := _, F_entry_address := fun_mk (st := s_entry_address) l_entry_address c_entry_address k_entry_address,
    g_entry_address := PySem.W.mg_of X G a_entry_address,
    b_entry_address := (fun_mk (st := s_entry_address) l_entry_address c_entry_address k_entry_address).binds (ps := ["controls"]) fun _ _ _ _ _ _ us hl => match us, hl with | [_], _ => rfl,
    f_home_address := _, fd_home_address := _, F_home_address := fun_mk (st := s_home_address) l_home_address c_home_address k_home_address,
    g_home_address := PySem.W.mg_of X G a_home_address,
    b_home_address := (fun_mk (st := s_home_address) l_home_address c_home_address k_home_address).binds (ps := ["controls"]) fun _ _ _ _ _ _ us hl => match us, hl with | [_], _ => rfl,
    kb_home_address := kw_binds (fun_mk (st := s_home_address) l_home_address c_home_address k_home_address) (by decide) fun _ _ _ _ _ _ us hl => match us, hl with | [_], _ => rfl,
    f_root_frame := _, fd_root_frame := _, F_root_frame := fun_mk (st := s_root_frame) l_root_frame c_root_frame k_root_frame,
    g_root_frame := PySem.W.mg_of X G a_root_frame,
    b_root_frame := (fun_mk (st := s_root_frame) l_root_frame c_root_frame k_root_frame).binds (ps := ["controls"]) fun _ _ _ _ _ _ us hl => match us, hl with | [_], _ => rfl,
    f_line_mask := _, fd_line_mask := _, F_line_mask := fun_mk (st := s_line_mask) l_line_mask c_line_mask k_line_mask,
    g_line_mask := PySem.W.mg_of X G a_line_mask,
    b_line_mask := (fun_mk (st := s_line_mask) l_line_mask c_line_mask k_line_mask).binds (ps := ["controls"]) fun _ _ _ _ _ _ us hl => match us, hl with | [_], _ => rfl,
    f_trapped := _, fd_trapped := _, F_trapped := fun_mk (st := s_trapped) l_trapped c_trapped k_trapped,
    g_trapped := PySem.W.mg_of X G a_trapped,
    b_trapped := (fun_mk (st := s_trapped) l_trapped c_trapped k_trapped).binds (ps := ["controls", "cause", "home", "bad"]) fun _ _ _ _ _ _ us hl => match us, hl with | [_, _, _, _], _ => rfl,
    kp_trapped_0_3210 := kw_bindsP (fun_mk (st := s_trapped) l_trapped c_trapped k_trapped) (by decide) fun _ _ _ _ _ _ us ws h1 h2 => match us, ws, h1, h2 with | [], [_, _, _, _], _, _ => rfl,
    f_returned := _, fd_returned := _, F_returned := fun_mk (st := s_returned) l_returned c_returned k_returned,
    g_returned := PySem.W.mg_of X G a_returned,
    b_returned := (fun_mk (st := s_returned) l_returned c_returned k_returned).binds (ps := ["controls"]) fun _ _ _ _ _ _ us hl => match us, hl with | [_], _ => rfl,
    kb_returned := kw_binds (fun_mk (st := s_returned) l_returned c_returned k_returned) (by decide) fun _ _ _ _ _ _ us hl => match us, hl with | [_], _ => rfl,
    f__status_bit := _, fd__status_bit := _, F__status_bit := fun_mk (st := s__status_bit) l__status_bit c__status_bit k__status_bit,
    g__status_bit := PySem.W.mg_of X G a__status_bit,
    b__status_bit := (fun_mk (st := s__status_bit) l__status_bit c__status_bit k__status_bit).binds (ps := ["controls", "bit"]) fun _ _ _ _ _ _ us hl => match us, hl with | [_, _], _ => rfl,
    f__with_side := _, fd__with_side := _, F__with_side := fun_mk (st := s__with_side) l__with_side c__with_side k__with_side,
    g__with_side := PySem.W.mg_of X G a__with_side,
    b__with_side := (fun_mk (st := s__with_side) l__with_side c__with_side k__with_side).binds (ps := ["status", "side"]) fun _ _ _ _ _ _ us hl => match us, hl with | [_, _], _ => rfl,
    f_Lpot := _, fd_Lpot := _, F_Lpot := fun_mk (st := s_Lpot) l_Lpot c_Lpot k_Lpot,
    g_Lpot := PySem.W.mg_of X G a_Lpot,
    b_Lpot := (fun_mk (st := s_Lpot) l_Lpot c_Lpot k_Lpot).binds (ps := ["_law_script", "_law_k"]) fun _ _ _ _ _ _ us hl => match us, hl with | [_, _], _ => rfl,
    f_Ldraw := _, fd_Ldraw := _, F_Ldraw := fun_mk (st := s_Ldraw) l_Ldraw c_Ldraw k_Ldraw,
    g_Ldraw := PySem.W.mg_of X G a_Ldraw,
    b_Ldraw := (fun_mk (st := s_Ldraw) l_Ldraw c_Ldraw k_Ldraw).binds (ps := ["_law_pot_here", "_law_size"]) fun _ _ _ _ _ _ us hl => match us, hl with | [_, _], _ => rfl,
    f_Lpick := _, fd_Lpick := _, F_Lpick := fun_mk (st := s_Lpick) l_Lpick c_Lpick k_Lpick,
    g_Lpick := PySem.W.mg_of X G a_Lpick,
    b_Lpick := (fun_mk (st := s_Lpick) l_Lpick c_Lpick k_Lpick).binds (ps := ["_law_pot_here", "_law_some"]) fun _ _ _ _ _ _ us hl => match us, hl with | [_, _], _ => rfl,
    f_Lcontrol := _, fd_Lcontrol := _, F_Lcontrol := fun_mk (st := s_Lcontrol) l_Lcontrol c_Lcontrol k_Lcontrol,
    g_Lcontrol := PySem.W.mg_of X G a_Lcontrol,
    b_Lcontrol := (fun_mk (st := s_Lcontrol) l_Lcontrol c_Lcontrol k_Lcontrol).binds (ps := ["_law_pot_here"]) fun _ _ _ _ _ _ us hl => match us, hl with | [_], _ => rfl,
    f_Lbit := _, fd_Lbit := _, F_Lbit := fun_mk (st := s_Lbit) l_Lbit c_Lbit k_Lbit,
    g_Lbit := PySem.W.mg_of X G a_Lbit,
    b_Lbit := (fun_mk (st := s_Lbit) l_Lbit c_Lbit k_Lbit).binds (ps := ["_law_word", "_law_at"]) fun _ _ _ _ _ _ us hl => match us, hl with | [_, _], _ => rfl,
    f_Ltrapped := _, fd_Ltrapped := _, F_Ltrapped := fun_mk (st := s_Ltrapped) l_Ltrapped c_Ltrapped k_Ltrapped,
    g_Ltrapped := PySem.W.mg_of X G a_Ltrapped,
    b_Ltrapped := (fun_mk (st := s_Ltrapped) l_Ltrapped c_Ltrapped k_Ltrapped).binds (ps := ["_law_controls", "_law_cause", "_law_home", "_law_bad"]) fun _ _ _ _ _ _ us hl => match us, hl with | [_, _, _, _], _ => rfl,
    f_Lreturned := _, fd_Lreturned := _, F_Lreturned := fun_mk (st := s_Lreturned) l_Lreturned c_Lreturned k_Lreturned,
    g_Lreturned := PySem.W.mg_of X G a_Lreturned,
    b_Lreturned := (fun_mk (st := s_Lreturned) l_Lreturned c_Lreturned k_Lreturned).binds (ps := ["_law_controls"]) fun _ _ _ _ _ _ us hl => match us, hl with | [_], _ => rfl,
    f_Lparts_right := _, fd_Lparts_right := _, F_Lparts_right := fun_mk (st := s_Lparts_right) l_Lparts_right c_Lparts_right k_Lparts_right,
    g_Lparts_right := PySem.W.mg_of X G a_Lparts_right,
    b_Lparts_right := (fun_mk (st := s_Lparts_right) l_Lparts_right c_Lparts_right k_Lparts_right).binds (ps := ["_law_controls"]) fun _ _ _ _ _ _ us hl => match us, hl with | [_], _ => rfl,
    f_Lright := _, fd_Lright := _, F_Lright := fun_mk (st := s_Lright) l_Lright c_Lright k_Lright,
    g_Lright := PySem.W.mg_of X G a_Lright,
    b_Lright := (fun_mk (st := s_Lright) l_Lright c_Lright k_Lright).binds (ps := ["_law_pot_here"]) fun _ _ _ _ _ _ us hl => match us, hl with | [_], _ => rfl,
    f_law := _, fd_law := _, F_law := fun_mk (st := s_law) l_law c_law k_law,
    g_law := PySem.W.mg_of X G a_law,
    b_law := (fun_mk (st := s_law) l_law c_law k_law).binds (ps := ["_law_script"]) fun _ _ _ _ _ _ us hl => match us, hl with | [_], _ => rfl,
    m_abs := PySem.W.mg_none_of X G z_abs,
    m_all := PySem.W.mg_none_of X G z_all,
    m_bool := PySem.W.mg_none_of X G z_bool,
    m_divmod := PySem.W.mg_none_of X G z_divmod,
    m_int := PySem.W.mg_none_of X G z_int,
    m_isinstance := PySem.W.mg_none_of X G z_isinstance,
    m_len := PySem.W.mg_none_of X G z_len,
    m_list := PySem.W.mg_none_of X G z_list,
    m_max := PySem.W.mg_none_of X G z_max,
    m_range := PySem.W.mg_none_of X G z_range,
    m_repr := PySem.W.mg_none_of X G z_repr,
    m_tuple := PySem.W.mg_none_of X G z_tuple,
    c__GREATEST_CAUSE := ⟨_, PySem.W.mg_of X G x__GREATEST_CAUSE⟩,
    c__WORD_BITS := ⟨_, PySem.W.mg_of X G x__WORD_BITS⟩,
    c_WORDS := ⟨_, PySem.W.mg_of X G x_WORDS⟩,
    c_ADDRESSES := ⟨_, PySem.W.mg_of X G x_ADDRESSES⟩,
    c__CONTROLS := ⟨_, PySem.W.mg_of X G x__CONTROLS⟩,
    c__STATUS := ⟨_, PySem.W.mg_of X G x__STATUS⟩,
    c__CAUSE := ⟨_, PySem.W.mg_of X G x__CAUSE⟩,
    c__HOME := ⟨_, PySem.W.mg_of X G x__HOME⟩,
    c__BAD := ⟨_, PySem.W.mg_of X G x__BAD⟩,
    c__ENTRY := ⟨_, PySem.W.mg_of X G x__ENTRY⟩,
    c__ROOT := ⟨_, PySem.W.mg_of X G x__ROOT⟩,
    c__MASK := ⟨_, PySem.W.mg_of X G x__MASK⟩,
    c__SUPERVISOR_BIT := ⟨_, PySem.W.mg_of X G x__SUPERVISOR_BIT⟩,
    c__ON_BIT := ⟨_, PySem.W.mg_of X G x__ON_BIT⟩,
    c__OLD_BIT := ⟨_, PySem.W.mg_of X G x__OLD_BIT⟩,
    c__SIDE_BITS := ⟨_, PySem.W.mg_of X G x__SIDE_BITS⟩,
    c__PAGED_BIT := ⟨_, PySem.W.mg_of X G x__PAGED_BIT⟩,
    c__FRESH_STATUS := ⟨_, PySem.W.mg_of X G x__FRESH_STATUS⟩,
    c__TRAPPED_SIDE := ⟨_, PySem.W.mg_of X G x__TRAPPED_SIDE⟩,
    c__FRAME_BITS := ⟨_, PySem.W.mg_of X G x__FRAME_BITS⟩,
    c__LINES := ⟨_, PySem.W.mg_of X G x__LINES⟩ }
  exact ⟨_, fun s v => .of_eq rfl, fun base _ _ => ok_law (P := l.prog) (w := w) (base := base) T⟩
theorem walk {l : PySem.W.OpenLaw} {q : Program} {loose : List Str} {XP : (Str → Option Value) → Heap → Prop} {YP : World → Heap → Prop} {d : DefRec} {K : Params → PySem.W.Frag} (hn : l.most = some 63) (hdf : d.params.defaults = [])
    (hY : ∀ (w : World) (h : Heap), YP w h → (K w.params).In h)
    (F : ∀ (w : World) (mg : Str → Option Value) (fa : Addr) (h : Heap), (K w.params).In h → h.Ns mainGlobals mg → mg d.name = some (.ref fa) →
      ∃ fd : FuncData, (∀ (s : Shared) (u : Value), BindsTo s fd ⟨[u], []⟩ [("_law_script", u)]) ∧ ∀ base : Heap, (K w.params).In base → base.Ns mainGlobals mg → FnG l.prog w (K w.params) mg base 11 fa fd ["_law_script"] (sp_law (K w.params))) :
    PySem.W.WalkO q loose XP YP l.row.toRowW d [] (fun f vs => PySem.call f vs) :=
  walk_ofG (n := 63) (k := 11) (x := "_law_script") (sp := fun w => sp_law (K w.params)) hn (by decide) hdf ⟨rfl, by decide, by decide⟩ hY F (fun _ _ a ns hl _ hS => ⟨a, ns, rfl, hS, hl, fun _ => rfl⟩)
end K41
open PySem PySem.W PyProof.Rows
set_option maxRecDepth 100000 in
set_option maxHeartbeats 0 in
theorem PySem.Challenge.cw_orderlycore_k41_whole_controls_trapped_a_holds : PySem.Challenge.rw_orderlycore_k41_whole_controls_trapped_a.Holds := by
  w_on; o_law; k_head; (case hw => w_witness2)
  k_fill
  refine K41.walk (l := PySem.Challenge.rw_orderlycore_k41_whole_controls_trapped_a) rfl rfl (fun w h Y => PySem.W.kIn_of Y) ?F
  case F =>
    intro w mg fa h KX G hmg
    refine' K41.all_mk KX G hmg ?a_is_integer ?l_is_integer ?c_is_integer ?k_is_integer ?a_is_between ?l_is_between ?c_is_between ?k_is_between ?a_is_list ?l_is_list ?c_is_list ?k_is_list ?a_need_cause ?l_need_cause ?c_need_cause ?k_need_cause ?a_is_word ?l_is_word ?c_is_word ?k_is_word ?a_is_address ?l_is_address ?c_is_address ?k_is_address ?a_is_word_list ?l_is_word_list ?c_is_word_list ?k_is_word_list ?a_need_word ?l_need_word ?c_need_word ?k_need_word ?a_need_address ?l_need_address ?c_need_address ?k_need_address ?a_need_bits ?l_need_bits ?c_need_bits ?k_need_bits ?a_bits ?l_bits ?c_bits ?k_bits ?a_with_bits ?l_with_bits ?c_with_bits ?k_with_bits ?a_need_controls ?l_need_controls ?c_need_controls ?k_need_controls ?a_fresh_controls ?l_fresh_controls ?c_fresh_controls ?k_fresh_controls ?a_is_supervisor ?l_is_supervisor ?c_is_supervisor ?k_is_supervisor ?a_is_on ?l_is_on ?c_is_on ?k_is_on ?a_is_paged ?l_is_paged ?c_is_paged ?k_is_paged ?a_entry_address ?l_entry_address ?c_entry_address ?k_entry_address ?a_home_address ?l_home_address ?c_home_address ?k_home_address ?a_root_frame ?l_root_frame ?c_root_frame ?k_root_frame ?a_line_mask ?l_line_mask ?c_line_mask ?k_line_mask ?a_trapped ?l_trapped ?c_trapped ?k_trapped ?a_returned ?l_returned ?c_returned ?k_returned ?a__status_bit ?l__status_bit ?c__status_bit ?k__status_bit ?a__with_side ?l__with_side ?c__with_side ?k__with_side ?a_Lpot ?l_Lpot ?c_Lpot ?k_Lpot ?a_Ldraw ?l_Ldraw ?c_Ldraw ?k_Ldraw ?a_Lpick ?l_Lpick ?c_Lpick ?k_Lpick ?a_Lcontrol ?l_Lcontrol ?c_Lcontrol ?k_Lcontrol ?a_Lbit ?l_Lbit ?c_Lbit ?k_Lbit ?a_Ltrapped ?l_Ltrapped ?c_Ltrapped ?k_Ltrapped ?a_Lreturned ?l_Lreturned ?c_Lreturned ?k_Lreturned ?a_Lparts_right ?l_Lparts_right ?c_Lparts_right ?k_Lparts_right ?a_Lright ?l_Lright ?c_Lright ?k_Lright ?a_law ?l_law ?c_law ?k_law ?z_abs ?z_all ?z_bool ?z_divmod ?z_int ?z_isinstance ?z_len ?z_list ?z_max ?z_range ?z_repr ?z_tuple ?x__GREATEST_CAUSE ?x__WORD_BITS ?x_WORDS ?x_ADDRESSES ?x__CONTROLS ?x__STATUS ?x__CAUSE ?x__HOME ?x__BAD ?x__ENTRY ?x__ROOT ?x__MASK ?x__SUPERVISOR_BIT ?x__ON_BIT ?x__OLD_BIT ?x__SIDE_BITS ?x__PAGED_BIT ?x__FRESH_STATUS ?x__TRAPPED_SIDE ?x__FRAME_BITS ?x__LINES
    (case a_is_integer => k_is)
    (case l_is_integer => k_is)
    (case c_is_integer => k_is)
    (case k_is_integer => k_is)
    (case a_is_between => k_is)
    (case l_is_between => k_is)
    (case c_is_between => k_is)
    (case k_is_between => k_is)
    (case a_is_list => k_is)
    (case l_is_list => k_is)
    (case c_is_list => k_is)
    (case k_is_list => k_is)
    (case a_need_cause => k_is)
    (case l_need_cause => k_is)
    (case c_need_cause => k_is)
    (case k_need_cause => k_is)
    (case a_is_word => k_is)
    (case l_is_word => k_is)
    (case c_is_word => k_is)
    (case k_is_word => k_is)
    (case a_is_address => k_is)
    (case l_is_address => k_is)
    (case c_is_address => k_is)
    (case k_is_address => k_is)
    (case a_is_word_list => k_is)
    (case l_is_word_list => k_is)
    (case c_is_word_list => k_is)
    (case k_is_word_list => k_is)
    (case a_need_word => k_is)
    (case l_need_word => k_is)
    (case c_need_word => k_is)
    (case k_need_word => k_is)
    (case a_need_address => k_is)
    (case l_need_address => k_is)
    (case c_need_address => k_is)
    (case k_need_address => k_is)
    (case a_need_bits => k_is)
    (case l_need_bits => k_is)
    (case c_need_bits => k_is)
    (case k_need_bits => k_is)
    (case a_bits => k_is)
    (case l_bits => k_is)
    (case c_bits => k_is)
    (case k_bits => k_is)
    (case a_with_bits => k_is)
    (case l_with_bits => k_is)
    (case c_with_bits => k_is)
    (case k_with_bits => k_is)
    (case a_need_controls => k_is)
    (case l_need_controls => k_is)
    (case c_need_controls => k_is)
    (case k_need_controls => k_is)
    (case a_fresh_controls => k_is)
    (case l_fresh_controls => k_is)
    (case c_fresh_controls => k_is)
    (case k_fresh_controls => k_is)
    (case a_is_supervisor => k_is)
    (case l_is_supervisor => k_is)
    (case c_is_supervisor => k_is)
    (case k_is_supervisor => k_is)
    (case a_is_on => k_is)
    (case l_is_on => k_is)
    (case c_is_on => k_is)
    (case k_is_on => k_is)
    (case a_is_paged => k_is)
    (case l_is_paged => k_is)
    (case c_is_paged => k_is)
    (case k_is_paged => k_is)
    (case a_entry_address => k_is)
    (case l_entry_address => k_is)
    (case c_entry_address => k_is)
    (case k_entry_address => k_is)
    (case a_home_address => k_is)
    (case l_home_address => k_is)
    (case c_home_address => k_is)
    (case k_home_address => k_is)
    (case a_root_frame => k_is)
    (case l_root_frame => k_is)
    (case c_root_frame => k_is)
    (case k_root_frame => k_is)
    (case a_line_mask => k_is)
    (case l_line_mask => k_is)
    (case c_line_mask => k_is)
    (case k_line_mask => k_is)
    (case a_trapped => k_is)
    (case l_trapped => k_is)
    (case c_trapped => k_is)
    (case k_trapped => k_is)
    (case a_returned => k_is)
    (case l_returned => k_is)
    (case c_returned => k_is)
    (case k_returned => k_is)
    (case a__status_bit => k_is)
    (case l__status_bit => k_is)
    (case c__status_bit => k_is)
    (case k__status_bit => k_is)
    (case a__with_side => k_is)
    (case l__with_side => k_is)
    (case c__with_side => k_is)
    (case k__with_side => k_is)
    (case a_Lpot => k_is)
    (case l_Lpot => k_is)
    (case c_Lpot => k_is)
    (case k_Lpot => k_is)
    (case a_Ldraw => k_is)
    (case l_Ldraw => k_is)
    (case c_Ldraw => k_is)
    (case k_Ldraw => k_is)
    (case a_Lpick => k_is)
    (case l_Lpick => k_is)
    (case c_Lpick => k_is)
    (case k_Lpick => k_is)
    (case a_Lcontrol => k_is)
    (case l_Lcontrol => k_is)
    (case c_Lcontrol => k_is)
    (case k_Lcontrol => k_is)
    (case a_Lbit => k_is)
    (case l_Lbit => k_is)
    (case c_Lbit => k_is)
    (case k_Lbit => k_is)
    (case a_Ltrapped => k_is)
    (case l_Ltrapped => k_is)
    (case c_Ltrapped => k_is)
    (case k_Ltrapped => k_is)
    (case a_Lreturned => k_is)
    (case l_Lreturned => k_is)
    (case c_Lreturned => k_is)
    (case k_Lreturned => k_is)
    (case a_Lparts_right => k_is)
    (case l_Lparts_right => k_is)
    (case c_Lparts_right => k_is)
    (case k_Lparts_right => k_is)
    (case a_Lright => k_is)
    (case l_Lright => k_is)
    (case c_Lright => k_is)
    (case k_Lright => k_is)
    (case a_law => k_is)
    (case l_law => k_is)
    (case c_law => k_is)
    (case k_law => k_is)
    (case z_abs => k_is)
    (case z_all => k_is)
    (case z_bool => k_is)
    (case z_divmod => k_is)
    (case z_int => k_is)
    (case z_isinstance => k_is)
    (case z_len => k_is)
    (case z_list => k_is)
    (case z_max => k_is)
    (case z_range => k_is)
    (case z_repr => k_is)
    (case z_tuple => k_is)
    (case x__GREATEST_CAUSE => k_is)
    (case x__WORD_BITS => k_is)
    (case x_WORDS => k_is)
    (case x_ADDRESSES => k_is)
    (case x__CONTROLS => k_is)
    (case x__STATUS => k_is)
    (case x__CAUSE => k_is)
    (case x__HOME => k_is)
    (case x__BAD => k_is)
    (case x__ENTRY => k_is)
    (case x__ROOT => k_is)
    (case x__MASK => k_is)
    (case x__SUPERVISOR_BIT => k_is)
    (case x__ON_BIT => k_is)
    (case x__OLD_BIT => k_is)
    (case x__SIDE_BITS => k_is)
    (case x__PAGED_BIT => k_is)
    (case x__FRESH_STATUS => k_is)
    (case x__TRAPPED_SIDE => k_is)
    (case x__FRAME_BITS => k_is)
    (case x__LINES => k_is)

