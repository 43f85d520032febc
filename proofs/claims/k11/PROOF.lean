import PyProof.Rows.All
import Wide.All
import OpenK.AllK
import Wide.FinOn
import HandS.ForMost
import HandS.IsInst
import HandS.Wide
import HandS.Style
import HandS.Walk
import HandS.Zip
import HandS.Flow
import PySem.Challenge.RW_orderlycore_k11_whole_words_bit_by_bit
set_option Elab.async false
set_option linter.all false
set_option maxRecDepth 100000
set_option maxHeartbeats 4000000
namespace Hx
open PySem PySem.Spec PyProof.Rows L2
/-! ### own rules -/
section
variable {X : Cx} {CX : CXT} {k : Nat} {f : Addr} {fd : FuncData} {ps ks : List Str} {sp : Sp} {E : XK} {x : Str} {p pos : Pos} {kws : List Keyword} {tk : TA} {g : List Value → List Value → List Value} {gV : List V → List V → List V}
theorem pe_callKA (F : FnOk X.prog X.w X.K X.mg X.base CX k f fd ps sp) (hr : Room k X.A) (hg : Gl X x) (hm : X.mg x = some (.ref f)) (hk : PySem.W.keepIn X.K (.ref f) = true) (hb : KBinds X.K fd ps ks g gV) (hx : Passes CX X E)
    (hkw : PK X kws tk) (hall : (backToKw pos (keywordEach kws X.env)).all (·.1.isSome) = true := by rfl) (hks : (backToKw pos (keywordEach kws X.env)).filterMap (·.1) = ks := by rfl)
    (hdb : (x == ("__debug__" : Str)) = false := by decide)
    (hpl : ((backTo pos (starEach [] X.env)).any (·.1) || (backToKw pos (keywordEach kws X.env)).any (·.1.isNone)) = false := by rfl) :
    PE X (.Call (.Name x p) [] kws pos) (tCallK sp gV E tNil tk) := by
  refine ⟨fun pins s σ H Q I h => ?_⟩
  refine wpAny_Call_Name_kw (ld_glob I hg hm ?_ hdb)
  refine PySem.W.callWith_KW0 (h₀ := X.base) I.ok.mod.kin hk hall ?_ hpl
  refine thn (hkw.run pos pins s σ H _ I h) fun ws s2 ⟨zs, H2, I2, rz, q2⟩ => ⟨I2.kIn, ?_⟩
  rw [hks]
  exact run_fnk F hr hb hx I2 .nil rz q2
/-- all by keywords, in the parameters' own order -/
def kwG {α : Type} (us ws : List α) : List α := match us with | [] => ws | _ => []
theorem kw_binds {K : PySem.W.Frag} {x qual : Str} {st : Stmt} {f : Addr} {fd : FuncData} {ps : List Str} (F : Fun K x qual st f fd) (h0 : 0 < ps.length)
    (h : ∀ (kV doc pm : Value) (an : Option Addr) (cdv ct : Value) (us : List Value), us.length = ps.length → bindArgs (PySem.W.fnOf x qual (defArgs st) (defBody st) (defScope st) .none kV doc pm an cdv ct) ⟨[], ps.zip us⟩ = pure (ps.zip us)) : KBinds K fd ps ps kwG kwG := by
  obtain ⟨oc, od, kV, doc, pm, an, cdv, ct, osl, rfl, lk, hcd⟩ := F.ex
  refine ⟨fun s us ws _ hl => ?_, fun {vs us zs ws} r1 r2 => ?_⟩
  · cases us with
    | nil => exact .of_eq (h kV doc pm an cdv ct ws hl)
    | cons a t => exact absurd hl (by simp [kwG]; omega)
  · cases r1 with
    | nil => exact r2
    | cons a t => exact .nil
theorem pg_pair {i j : Nat} {x y : Str} {p1 p2 : Pos} {kk : Nat} (hc : X.calm = true) (hN : X.N.Nodup) (hi : X.N[i]? = some x) (hj : X.N[j]? = some y) (hx : Loc X.env.scope x) (hy : Loc X.env.scope y)
    (hf : X.fn x = true ∨ X.env.scope.names.lookup x = some .local := by first | exact .inl rfl | exact .inr rfl | assumption) (hf2 : X.fn y = true ∨ X.env.scope.names.lookup y = some .local := by first | exact .inl rfl | exact .inr rfl | assumption)
    (hn : (assignEach [Expr.Name x p1, .Name y p2] X.env).length = 2 := by rfl) (hst : (assignEach [Expr.Name x p1, .Name y p2] X.env).findIdx? (·.1) = none := by rfl)
    (hs : (assignEach [Expr.Name x p1, .Name y p2] X.env).map (·.2) = assign (.Name x p1) X.env :: (assignEach [Expr.Name y p2] X.env).map (·.2) := by rfl)
    (hs2 : (assignEach [Expr.Name y p2] X.env).map (·.2) = assign (.Name y p2) X.env :: (assignEach [] X.env).map (·.2) := by rfl) :
    PG X (.Tuple [.Name x p1, .Name y p2] kk pos) (gTup X.K 2 (gCons (gName i) (gCons (gName j) gNil))) :=
  pg_tup hc (pgs_cons (pg_name hN hi hx hf) (pgs_cons (pg_name hN hj hy hf2) pgs_nil hs2) hs) hn hst
theorem pe_gint {i : Int} (hg : Gl X x) (hm : ∃ t, X.mg x = some (.int i t)) (hd : (x == ("__debug__" : Str)) = false := by decide) : PE X (.Name x pos) (tC (.int i)) := by
  obtain ⟨t, hm⟩ := hm
  exact pe_glob hg hm ⟨_, rfl⟩ hd
end
theorem call_int1i {X : Cx} : CallR X (.type "int") (fun xs H Q => ∃ i, xs = [.int i] ∧ Q (.int i) H) := fun pins s σ H xs us Q I r h => call_int1 pins s σ H xs us Q I r (.inl h)
theorem call_int1b {X : Cx} : CallR X (.type "int") (fun xs H Q => ∃ k, xs = [.bl k] ∧ Q (.int (if k then 1 else 0)) H) := fun pins s σ H xs us Q I r h => call_int1 pins s σ H xs us Q I r (.inr h)
theorem call_len_list {X : Cx} : CallR X (.builtin "len") (fun xs H Q => ∃ p ys, xs = [.ref p] ∧ SqL X.K H p ys ∧ Q (.int ys.length) H) := fun pins s σ H xs us Q I r ⟨p, ys, e, h, q⟩ => call_len_seq pins s σ H xs us Q I r ⟨p, ys, e, .inl h, q⟩
/-- a goal at which the walker of readings stops -/
structure Stop (p : Prop) : Prop where
  h : p
theorem stop_eq {p : Prop} : Stop p = p := propext ⟨fun q => q.h, fun q => ⟨q⟩⟩
def tForS (wi : TI) (g : TG) (tb : TS) : TS := fun D σ H => wi σ H fun J H1 => Stop (∃ W : Nat → Nat → L2.St → Hp → Prop, (∃ m, W 0 m σ H1) ∧ ∀ i m σ H, W i m σ H →
  (J.stop i H ∧ D.nx σ H) ∨ (J.go i H ∧ ∃ N : L2.St → Hp → Prop, (∀ σ' H', N σ' H' → ∃ m', m' < m ∧ W (i + 1) m' σ' H') ∧ ∀ x H', J.yld i H x H' → g x σ H' fun σ2 H2 => tb { D with nx := N, ct := N, bk := D.nx } σ2 H2))
theorem tForS_eq (wi : TI) (g : TG) (tb : TS) : tForS wi g tb = tFor wi g tb := by
  funext D σ H
  unfold tForS tFor
  simp only [stop_eq]
theorem ps_forS {X : Cx} {tg iter : Expr} {body : List Stmt} {wi : TI} {g : TG} {tb : TS} {pos : Pos} (hp : PassesOwn (model X.prog X.w) X.A X.env X.xe) (hc : X.calm = true) (hi : PI X tg iter wi) (hg : PG X tg g) (hb : PSs X body tb)
    (hs : ∀ x, foldedSetIterable iter X.env x = pure x := by intro _; rfl) : PS X (.For tg iter body [] pos) (tForS wi g tb) := by
  rw [tForS_eq]
  exact ps_for hp hc hi hg hb hs
/-! ### heaps -/
theorem same_upd {H : Hp} {p : Addr} {o : HO} (h : H p = none) : Same H (upd H p o) := fun b u e => by rw [upd_ne (ne_of_none e h)]; exact e
theorem Same.upd {H H1 : Hp} {p : Addr} {o : HO} (s : Same H H1) (h : H1 p = none) : Same H (L2.upd H1 p o) := L2.Same.trans s (same_upd h)
theorem Same.free' {H H1 : Hp} (s : Same H H1) {p : Addr} (h : H1 p = none) : H p = none := L2.Same.free s h
/-- all but a is as it was -/
def But (a : Addr) (H H' : Hp) : Prop := ∀ b o, b ≠ a → H b = some o → H' b = some o
theorem But.refl {a : Addr} (H : Hp) : But a H H := fun _ _ _ h => h
theorem But.trans {a : Addr} {H H1 H2 : Hp} (x : But a H H1) (y : But a H1 H2) : But a H H2 := fun b o n h => y b o n (x b o n h)
theorem But.same {a : Addr} {H H1 : Hp} (x : Same H H1) : But a H H1 := fun b o _ h => x b o h
theorem But.set {a : Addr} {H : Hp} {o : HO} : But a H (upd H a o) := fun b u n h => by rw [upd_ne n]; exact h
theorem But.new {a : Addr} {H H1 : Hp} {p : Addr} {o : HO} (x : But a H H1) (h : H1 p = none) : But a H (upd H1 p o) := x.trans (But.same (same_upd h))
theorem size_le {n : Nat} (h : n ≤ 10000) : n ≤ sizeLine := by rw [sizeLine_eq]; omega
theorem size_lt {n : Nat} (h : n ≤ 10000) : n < sizeLine := by rw [sizeLine_eq]; omega
theorem iteD {c A B : Prop} [Decidable c] (h1 : c → A) (h2 : ¬ c → B) : if decide c = true then A else B := by
  by_cases h : c
  · rw [decide_eq_true h]; exact iteT (h1 h)
  · rw [decide_eq_false h]; exact iteF (h2 h)
theorem iteN {c A B : Prop} [Decidable c] (h1 : ¬ c → A) (h2 : c → B) : if (!decide c) = true then A else B := by
  by_cases h : c
  · rw [decide_eq_true h]; exact iteF (h2 h)
  · rw [decide_eq_false h]; exact iteT (h1 h)
theorem qbl {Q : VK} {b c : Bool} {H : Hp} (k : Q (.bl b) H) (e : c = b) : Q (.bl c) H := e ▸ k
theorem qint {Q : VK} {i j : Int} {H : Hp} (k : Q (.int i) H) (e : j = i) : Q (.int j) H := e ▸ k
theorem same_set {H H1 : Hp} {p : Addr} {o : HO} (s : Same H H1) (n : H p = none) : Same H (upd H1 p o) := fun b u e => by rw [upd_ne (ne_of_none e n)]; exact s b u e
theorem old_upd {H : Hp} {p a : Addr} {o u : HO} (n : H p = none) (h : H a = some u) : upd H p o a = some u := same_upd n _ _ h
theorem SqL.new {K : PySem.W.Frag} {H : Hp} {p a : Addr} {o : HO} {xs : List V} (n : H p = none) (h : SqL K H a xs) : SqL K (upd H p o) a xs := L2.Same.seq (same_upd n) h
theorem tyl_new {K : PySem.W.Frag} {H : Hp} {p a : Addr} {o : HO} {xs : List V} (h : H a = some (.lst xs)) (n : H p = none) : tyV K "list" (.ref a) (upd H p o) := Or.inl ⟨rfl, xs, SqL.of (old_upd n h)⟩
theorem tyl_of {K : PySem.W.Frag} {H : Hp} {a : Addr} {xs : List V} (h : H a = some (.lst xs)) : tyV K "list" (.ref a) H := Or.inl ⟨rfl, xs, SqL.of h⟩
theorem same_at {H H' : Hp} {a : Addr} {u : HO} (s : Same H H') (h : H a = some u) : H' a = some u := s _ _ h
theorem same_trans' {H H1 H2 : Hp} (b : Same H1 H2) (a : Same H H1) : Same H H2 := L2.Same.trans a b
/-! ### comprehensions that keep what stood -/
theorem lc_mapS {K : PySem.W.Frag} {a : Addr} {xs : List V} {g : TG} {te : TE} {vs : List Nat} {σ : L2.St} {H1 : Hp} {D : Addr} {Qd : Hp → Prop} (ys : List V) (ha : SqL K H1 a xs) (hD : H1 D = none) (hl : xs.length = ys.length) (hz : xs.length ≤ 10000)
    (hs : ∀ (i : Nat) (x y : V) (H' : Hp) (Q : VK), xs[i]? = some x → ys[i]? = some y → Same H1 H' → (∀ H'', Same H' H'' → Q y H'') → g x (wipe σ vs) H' fun σ2 H2 => wipe σ2 vs = wipe σ vs ∧ te σ2 H2 Q)
    (hd : ∀ H', Same H1 H' → H' D = some (.lst ys) → Qd H') :
    ∃ W : Nat → Nat → Hp → Prop, (∃ m, W 0 m (upd H1 D (.lst []))) ∧ ∀ i m H, W i m H →
      ((Itl K a).stop i H ∧ Qd H) ∨ ((Itl K a).go i H ∧ ∃ Nx : Hp → Prop, (∀ H', Nx H' → ∃ m', m' < m ∧ W (i + 1) m' H') ∧ ∀ x H', (Itl K a).yld i H x H' → g x (wipe σ vs) H' fun σ2 H2 => wipe σ2 vs = wipe σ vs ∧ tYes σ2 H2 fun b H3 =>
        if b = true then te σ2 H3 fun y H4 => ∃ acc, H4 D = some (.lst acc) ∧ acc.length < sizeLine ∧ Nx (upd H4 D (.lst (acc ++ [y]))) else Nx H3) := by
  refine lc_list (xs := xs) (fun i H => Same H1 H ∧ H D = some (.lst (ys.take i))) ⟨same_upd hD, upd_same⟩ (fun i H _ h => L2.Same.seq h.1 ha) (fun i x H hx h => ?_) (fun H h => hd H h.1 (by rw [h.2, List.take_of_length_le (by omega)]))
  have hi : i < ys.length := by have := (List.getElem?_eq_some_iff.mp hx).1; omega
  refine hs i x ys[i] H _ hx (List.getElem?_eq_getElem hi) h.1 (fun H'' s => ?_)
  refine ⟨ys.take i, s _ _ h.2, size_lt (by simp; omega), same_set (L2.Same.trans h.1 s) hD, ?_⟩
  rw [upd_same, List.take_add_one, List.getElem?_eq_getElem hi]; rfl
theorem lc_mapZ {K : PySem.W.Frag} {a b : Addr} {xs zs : List V} {g : TG} {te : TE} {vs : List Nat} {σ : L2.St} {H1 : Hp} {D : Addr} {Qd : Hp → Prop} (ys : List V) (ha : SqL K H1 a xs) (hb : SqL K H1 b zs) (hD : H1 D = none) (hl : xs.length = ys.length) (hl2 : xs.length = zs.length) (hz : xs.length ≤ 10000)
    (hs : ∀ (i : Nat) (x z y : V) (T : Addr) (H' : Hp) (Q : VK), xs[i]? = some x → zs[i]? = some z → ys[i]? = some y → Same H1 H' → H' T = none → (∀ H'', Same (upd H' T (.tup [x, z])) H'' → Q y H'') → g (.ref T) (wipe σ vs) (upd H' T (.tup [x, z])) fun σ2 H2 => wipe σ2 vs = wipe σ vs ∧ te σ2 H2 Q)
    (hd : ∀ H', Same H1 H' → H' D = some (.lst ys) → Qd H') :
    ∃ W : Nat → Nat → Hp → Prop, (∃ m, W 0 m (upd H1 D (.lst []))) ∧ ∀ i m H, W i m H →
      ((Itz K a b).stop i H ∧ Qd H) ∨ ((Itz K a b).go i H ∧ ∃ Nx : Hp → Prop, (∀ H', Nx H' → ∃ m', m' < m ∧ W (i + 1) m' H') ∧ ∀ x H', (Itz K a b).yld i H x H' → g x (wipe σ vs) H' fun σ2 H2 => wipe σ2 vs = wipe σ vs ∧ tYes σ2 H2 fun b H3 =>
        if b = true then te σ2 H3 fun y H4 => ∃ acc, H4 D = some (.lst acc) ∧ acc.length < sizeLine ∧ Nx (upd H4 D (.lst (acc ++ [y]))) else Nx H3) := by
  refine lc_it (walk_zip (xs := xs) (ys := zs) (n := xs.length) (by omega)) (fun i H => Same H1 H ∧ H D = some (.lst (ys.take i))) ⟨same_upd hD, upd_same⟩ (fun i H _ h => ⟨L2.Same.seq h.1 ha, L2.Same.seq h.1 hb⟩) (fun i x H H' hi h y => ?_) (fun H h => hd H h.1 (by rw [h.2, List.take_of_length_le (by omega)]))
  obtain ⟨T, x', z', rfl, hT, rfl, hx, hz'⟩ := y
  have hi' : i < ys.length := by omega
  refine hs i x' z' ys[i] T H _ hx hz' (List.getElem?_eq_getElem hi') h.1 hT (fun H'' s => ?_)
  refine ⟨ys.take i, s _ _ (old_upd hT h.2), size_lt (by simp; omega), same_set (L2.Same.trans (Same.upd h.1 hT) s) hD, ?_⟩
  rw [upd_same, List.take_add_one, List.getElem?_eq_getElem hi']; rfl
/-! ### two lists of the same ints -/
theorem dp_ints {K : PySem.W.Frag} {H : Hp} : ∀ ns : List Int, DpAll K H (ns.map V.int) (ns.map PyData.int)
  | [] => .nil
  | n :: r => .cons (.int n) (dp_ints r)
theorem sh_ints (ns : List Int) : SeqAt.shaped (.list (ns.map PyData.int)) = true := PySem.W.shaped_ints ns
theorem eqv_ints (ns : List Int) : PyData.eqv (.list (ns.map PyData.int)) (.list (ns.map PyData.int)) = true := SeqAt.eqv_refl _ (SeqAt.canLay_of_shaped (sh_ints ns))
theorem op_eqLI {X : Cx} (hu : X.A.units + 64 < cLine) : OpR X (compareOp .Eq) (fun x y H Q => ∃ (p q : Addr) (ns : List Int), x = .ref p ∧ y = .ref q ∧ SqL X.K H p (ns.map V.int) ∧ SqL X.K H q (ns.map V.int) ∧ Q (.bl true) H) := by
  intro pins s σ H x y v u Q I rx ry ⟨p, q, ns, e1, e2, h1, h2, k⟩
  refine op_eqD hu pins s σ H x y v u Q I rx ry ⟨.list (ns.map PyData.int), .list (ns.map PyData.int), ?_, ?_, ?_, ?_, ?_⟩
  · rw [e1]; exact .lst h1 (dp_ints ns)
  · rw [e2]; exact .lst h2 (dp_ints ns)
  · exact sh_ints ns
  · exact sh_ints ns
  · rw [eqv_ints]; exact k
theorem op_neLI {X : Cx} (hu : X.A.units + 64 < cLine) : OpR X (compareOp .NotEq) (fun x y H Q => ∃ (p q : Addr) (ns : List Int), x = .ref p ∧ y = .ref q ∧ SqL X.K H p (ns.map V.int) ∧ SqL X.K H q (ns.map V.int) ∧ Q (.bl false) H) := by
  intro pins s σ H x y v u Q I rx ry ⟨p, q, ns, e1, e2, h1, h2, k⟩
  refine op_neD hu pins s σ H x y v u Q I rx ry ⟨.list (ns.map PyData.int), .list (ns.map PyData.int), ?_, ?_, ?_, ?_, ?_⟩
  · rw [e1]; exact .lst h1 (dp_ints ns)
  · rw [e2]; exact .lst h2 (dp_ints ns)
  · exact sh_ints ns
  · exact sh_ints ns
  · rw [eqv_ints]; exact k
/-! ### the pot -/
structure Pot (H : Hp) (a : Addr) : Prop where
  ex : ∃ x y : Int, H a = some (.lst [.int x, .int y]) ∧ 0 ≤ x ∧ 0 ≤ y ∧ y < 4294967296
theorem Pot.same {H H' : Hp} {a : Addr} (s : Same H H') (h : Pot H a) : Pot H' a := by
  obtain ⟨x, y, e, r⟩ := h
  exact ⟨x, y, s _ _ e, r⟩
theorem Pot.new {H : Hp} {a p : Addr} {o : HO} (h : Pot H a) (n : H p = none) : Pot (upd H p o) a := h.same (same_upd n)
theorem Pot.ne {H : Hp} {a p : Addr} (h : Pot H a) (n : H p = none) : p ≠ a := by
  obtain ⟨x, y, e, r⟩ := h
  exact fun z => by rw [z, e] at n; cases n
theorem mulw {i j : Int} {a b : Nat} (ha : i.natAbs < 2 ^ a) (hb : j.natAbs < 2 ^ b) (h0 : 0 < a := by decide) (h1 : 0 < b := by decide) (h : a + b ≤ 1000000 := by decide) : CMulW i j := wide_mul ha hb h0 h1 h
theorem mulw64 {i j : Int} (ha : i.natAbs < 18446744073709551616) (hb : j.natAbs < 18446744073709551616) : CMulW i j := wide_mul (a := 64) (b := 64) ha hb (by decide) (by decide) (by decide)
theorem pick_at {xs : List V} {d : Int} (h0 : 0 ≤ d) (h1 : d < xs.length) : ∃ v, atI xs d = some v ∧ v ∈ xs := by
  have hd : d.toNat < xs.length := by omega
  exact ⟨xs[d.toNat], at_of (j := d.toNat) (by omega) (List.getElem?_eq_getElem hd), List.getElem_mem hd⟩
theorem take_fold {α β : Type} {f : β → α → β} {z : β} {l : List α} {i : Nat} {x : α} (h : l[i]? = some x) : (l.take (i + 1)).foldl f z = f ((l.take i).foldl f z) x := by
  rw [List.take_add_one, h, Option.toList_some, List.foldl_append]; rfl
theorem int_get {ns : List Int} {i : Nat} {x : V} (h : (ns.map V.int)[i]? = some x) : ∃ z, x = .int z ∧ ns[i]? = some z := by
  rw [List.getElem?_map] at h
  obtain ⟨z, hz, e⟩ := Option.map_eq_some_iff.mp h
  exact ⟨z, e.symm, hz⟩
/-- called with the pot and how many: a number below that, and the pot is still one -/
def spDraw : Sp := fun vs H Q _ => ∃ (a : Addr) (n : Int), vs = [.ref a, .int n] ∧ Pot H a ∧ 0 < n ∧ n < 1073741824 ∧
  ∀ (d : Int) (H' : Hp), 0 ≤ d → d < n → Pot H' a → But a H H' → Q (.int d) H'
end Hx

set_option Elab.async false
set_option linter.all false
namespace K11M
open PySem PySem.Spec
/-! the bits of a word, and what bits are worth -/
def val : List Int → Int
  | [] => 0
  | b :: r => val r * 2 + b
def Bits (l : List Int) : Prop := ∀ b ∈ l, b = 0 ∨ b = 1
theorem Bits.nil : Bits [] := fun _ h => nomatch h
theorem Bits.cons {b : Int} {l : List Int} (hb : b = 0 ∨ b = 1) (h : Bits l) : Bits (b :: l) := fun x hx => by
  rcases List.mem_cons.mp hx with rfl | hx
  · exact hb
  · exact h x hx
theorem Bits.tail {b : Int} {l : List Int} (h : Bits (b :: l)) : Bits l := fun x hx => h x (List.mem_cons_of_mem _ hx)
theorem Bits.head {b : Int} {l : List Int} (h : Bits (b :: l)) : b = 0 ∨ b = 1 := h b List.mem_cons_self
theorem Bits.app {l r : List Int} (h : Bits l) (h' : Bits r) : Bits (l ++ r) := fun x hx => (List.mem_append.mp hx).elim (h x) (h' x)
theorem Bits.take {l : List Int} (n : Nat) (h : Bits l) : Bits (l.take n) := fun x hx => h x (List.mem_of_mem_take hx)
theorem Bits.drop {l : List Int} (n : Nat) (h : Bits l) : Bits (l.drop n) := fun x hx => h x (List.mem_of_mem_drop hx)
theorem Bits.rep (n : Nat) : Bits (List.replicate n 0) := fun x hx => .inl (List.eq_of_mem_replicate hx)
theorem val_lt : ∀ {l : List Int}, Bits l → 0 ≤ val l ∧ val l < 2 ^ l.length
  | [], _ => by simp [val]
  | b :: r, h => by
    have i := val_lt h.tail
    have hb := h.head
    simp only [val, List.length_cons, Int.pow_succ]
    omega
theorem val_app : ∀ (l r : List Int), val (l ++ r) = val l + val r * 2 ^ l.length
  | [], r => by simp [val]
  | b :: l, r => by
    have i := val_app l r
    simp only [List.cons_append, val, List.length_cons, Int.pow_succ, i]
    rw [Int.add_mul, Int.mul_assoc (val r)]
    omega
theorem val_rep : ∀ n : Nat, val (List.replicate n 0) = 0
  | 0 => rfl
  | n + 1 => by simp only [List.replicate_succ, val, val_rep n]; rfl
/-- the first n bits -/
def bs (n : Nat) (w : Int) : List Int := (List.range n).map fun k => w / 2 ^ k % 2
theorem bs_succ (n : Nat) (w : Int) : bs (n + 1) w = bs n w ++ [w / 2 ^ n % 2] := by
  unfold bs; rw [List.range_succ, List.map_append]; rfl
theorem bs_len (n : Nat) (w : Int) : (bs n w).length = n := by simp [bs]
theorem bs_bits (n : Nat) (w : Int) : Bits (bs n w) := fun x hx => by
  obtain ⟨k, _, rfl⟩ := List.mem_map.mp hx
  omega
theorem pow_pos (n : Nat) : (0 : Int) < 2 ^ n := Int.pow_pos (by decide)
theorem ediv_pow_succ (w : Int) (n : Nat) : w / 2 ^ (n + 1) = w / 2 ^ n / 2 := by
  rw [Int.pow_succ, Int.ediv_ediv_of_nonneg (Int.le_of_lt (pow_pos n))]
theorem val_bs : ∀ (n : Nat) (w : Int), val (bs n w) = w % 2 ^ n
  | 0, w => by simp [bs, val, Int.emod_one]
  | n + 1, w => by
    rw [bs_succ, val_app, val_bs n w, bs_len]
    have p := pow_pos n
    have e1 := Int.mul_ediv_add_emod w (2 ^ n)
    have e2 := Int.mul_ediv_add_emod (w / 2 ^ n) 2
    have e3 := Int.mul_ediv_add_emod w (2 ^ (n + 1))
    have h0 := Int.emod_nonneg w (show (2 : Int) ^ n ≠ 0 by omega)
    have h1 := Int.emod_lt_of_pos w p
    have h2 : 0 ≤ w / 2 ^ n % 2 ∧ w / 2 ^ n % 2 < 2 := by omega
    simp only [val, Int.zero_mul, Int.zero_add]
    rw [ediv_pow_succ] at e3
    rw [Int.pow_succ] at e3 ⊢
    generalize w / 2 ^ n / 2 = q at *
    generalize w / 2 ^ n % 2 = b at *
    generalize w / 2 ^ n = d at *
    generalize w % 2 ^ n = r at *
    have e4 : w = (2 ^ n * 2) * q + (r + b * 2 ^ n) := by
      rw [← e1, ← e2, Int.mul_add, Int.mul_assoc, Int.mul_comm b]
      omega
    have hb : b = 0 ∨ b = 1 := by omega
    have h3 : 0 ≤ r + b * 2 ^ n ∧ r + b * 2 ^ n < 2 ^ n * 2 := by
      rcases hb with rfl | rfl <;> omega
    rw [e4, Int.mul_add_emod_self_left, Int.emod_eq_of_lt h3.1 h3.2]
theorem take_bs (k n : Nat) (w : Int) (h : k ≤ n) : (bs n w).take k = bs k w := by
  unfold bs
  rw [← List.map_take, List.take_range, Nat.min_eq_left h]
theorem drop_bs (k n : Nat) (w : Int) (h : k ≤ n) : (bs n w).drop k = bs (n - k) (w / 2 ^ k) := by
  apply List.ext_getElem
  · simp [bs]
  · intro i h1 h2
    simp only [bs, List.getElem_drop, List.getElem_map, List.getElem_range]
    rw [Int.pow_add, Int.ediv_ediv_of_nonneg (Int.le_of_lt (pow_pos k))]
/-! addition with what is carried -/
def add : List Int → List Int → Int → List Int
  | a :: l, b :: r, c => (a + b + c) % 2 :: add l r ((a + b + c) / 2)
  | _, _, _ => []
theorem add_len : ∀ {l r : List Int} {c : Int}, l.length = r.length → (add l r c).length = l.length
  | [], _, _, _ => rfl
  | a :: l, b :: r, c, h => by simp only [add, List.length_cons, add_len (l := l) (r := r) (c := (a + b + c) / 2) (by simpa using h)]
  | _ :: _, [], _, h => by simp at h
theorem add_bits : ∀ (l r : List Int) (c : Int), Bits (add l r c)
  | [], _, _ => .nil
  | a :: l, b :: r, c => .cons (by omega) (add_bits l r _)
  | _ :: _, [], _ => .nil
theorem add_val : ∀ {l r : List Int} {c : Int}, l.length = r.length → Bits l → Bits r → (c = 0 ∨ c = 1) → val (add l r c) = (val l + val r + c) % 2 ^ l.length
  | [], [], c, _, _, _, _ => by simp [add, val, Int.emod_one]
  | [], _ :: _, _, h, _, _, _ => by simp at h
  | _ :: _, [], _, h, _, _, _ => by simp at h
  | a :: l, b :: r, c, h, hl, hr, hc => by
    have h' : l.length = r.length := by simpa using h
    have ha := hl.head
    have hb := hr.head
    have i := add_val (l := l) (r := r) (c := (a + b + c) / 2) h' hl.tail hr.tail (by omega)
    simp only [add, val, List.length_cons, Int.pow_succ, i]
    have p := pow_pos l.length
    generalize hM : (2 : Int) ^ l.length = M at *
    have e1 : val l * 2 + a + (val r * 2 + b) + c = (val l + val r + (a + b + c) / 2) * 2 + (a + b + c) % 2 := by omega
    rw [e1]
    generalize hS : val l + val r + (a + b + c) / 2 = S
    have ht : (a + b + c) % 2 = 0 ∨ (a + b + c) % 2 = 1 := by omega
    generalize (a + b + c) % 2 = t at *
    have e2 := Int.mul_ediv_add_emod S M
    have h0 := Int.emod_nonneg S (show M ≠ 0 by omega)
    have h1 := Int.emod_lt_of_pos S p
    generalize S / M = q at *
    generalize S % M = m at *
    have e3 : S * 2 + t = (M * 2) * q + (m * 2 + t) := by rw [← e2, Int.add_mul, Int.mul_assoc, Int.mul_comm q 2, ← Int.mul_assoc]; omega
    rw [e3, Int.mul_add_emod_self_left, Int.emod_eq_of_lt (by omega) (by omega)]
/-! bit by bit -/
theorem bs_cons (n : Nat) (w : Int) : bs (n + 1) w = w % 2 :: bs n (w / 2) := by
  apply List.ext_getElem
  · simp [bs]
  · intro i h1 h2
    cases i with
    | zero => simp [bs]
    | succ i =>
      simp only [bs, List.getElem_map, List.getElem_range, List.getElem_cons_succ]
      rw [Int.pow_succ', Int.ediv_ediv_of_nonneg (by decide)]
def zw (f : Int → Int → Int) : List Int → List Int → List Int
  | a :: l, b :: r => f a b :: zw f l r
  | _, _ => []
theorem zw_len {f : Int → Int → Int} : ∀ {l r : List Int}, l.length = r.length → (zw f l r).length = l.length
  | [], _, _ => rfl
  | a :: l, b :: r, h => by simp only [zw, List.length_cons, zw_len (l := l) (r := r) (by simpa using h)]
  | _ :: _, [], h => by simp at h
theorem zw_get {f : Int → Int → Int} : ∀ {l r : List Int} {i : Nat} {a b : Int}, l[i]? = some a → r[i]? = some b → (zw f l r)[i]? = some (f a b)
  | [], _, _, _, _, h, _ => by simp at h
  | _ :: _, [], _, _, _, _, h => by simp at h
  | x :: l, y :: r, 0, a, b, h, h' => by simp at h h'; simp [zw, h, h']
  | x :: l, y :: r, i + 1, a, b, h, h' => by simp at h h'; simp [zw, zw_get (f := f) h h']
theorem zw_bits {f : Int → Int → Int} (hf : ∀ a b, (a = 0 ∨ a = 1) → (b = 0 ∨ b = 1) → f a b = 0 ∨ f a b = 1) : ∀ {l r : List Int}, Bits l → Bits r → Bits (zw f l r)
  | [], _, _, _ => .nil
  | a :: l, b :: r, h, h' => .cons (hf a b h.head h'.head) (zw_bits hf h.tail h'.tail)
  | _ :: _, [], _, _ => .nil
theorem zw_lin {f : Int → Int → Int} {k : Int} (hf : ∀ a b, (a = 0 ∨ a = 1) → (b = 0 ∨ b = 1) → f a b = a + b - k * (a * b)) : ∀ {l r : List Int}, l.length = r.length → Bits l → Bits r → val (zw f l r) = val l + val r - k * val (zw (· * ·) l r)
  | [], [], _, _, _ => by simp [zw, val]
  | a :: l, b :: r, h, hl, hr => by
    have i := zw_lin (f := f) (k := k) hf (l := l) (r := r) (by simpa using h) hl.tail hr.tail
    simp only [zw, val, i, hf a b hl.head hr.head, Int.mul_add]
    have e : k * (val (zw (fun x1 x2 => x1 * x2) l r) * 2) = k * val (zw (fun x1 x2 => x1 * x2) l r) * 2 := by rw [Int.mul_assoc]
    rw [e]; omega
  | _ :: _, [], h, _, _ => by simp at h
  | [], _ :: _, h, _, _ => by simp at h
theorem and_step (x y : Nat) : ((x &&& y : Nat) : Int) = (((x / 2 &&& y / 2 : Nat) : Int)) * 2 + ((x % 2 : Nat) : Int) * ((y % 2 : Nat) : Int) := by
  have e : (x &&& y) / 2 = x / 2 &&& y / 2 := Nat.and_div_two
  have o := @Nat.and_mod_two_eq_one x y
  rw [← e]
  clear e
  generalize x &&& y = z at o ⊢
  have hx : x % 2 = 0 ∨ x % 2 = 1 := by omega
  have hy : y % 2 = 0 ∨ y % 2 = 1 := by omega
  generalize x % 2 = p at *
  generalize y % 2 = q at *
  have hz : z % 2 = if p = 1 ∧ q = 1 then 1 else 0 := by
    by_cases h : p = 1 ∧ q = 1
    · rw [if_pos h]; exact o.mpr h
    · rw [if_neg h]; have := mt o.mp h; omega
  rcases hx with rfl | rfl <;> rcases hy with rfl | rfl <;> simp at hz <;> simp <;> omega
theorem and_val : ∀ (n x y : Nat), x < 2 ^ n → y < 2 ^ n → val (zw (· * ·) (bs n x) (bs n y)) = ((x &&& y : Nat) : Int)
  | 0, x, y, hx, hy => by
    obtain rfl : x = 0 := by simpa using hx
    simp [bs, zw, val]
  | n + 1, x, y, hx, hy => by
    rw [Nat.pow_succ] at hx hy
    have i := and_val n (x / 2) (y / 2) (by omega) (by omega)
    rw [bs_cons, bs_cons, and_step x y]
    simp only [zw, val]
    rw [← i]
    simp
theorem and16 {x y : Int} (hx : 0 ≤ x ∧ x < 65536) (hy : 0 ≤ y ∧ y < 65536) : Builtin.bitAnd x y = val (zw (· * ·) (bs 16 x) (bs 16 y)) := by
  obtain ⟨n, rfl⟩ := Int.eq_ofNat_of_zero_le hx.1
  obtain ⟨m, rfl⟩ := Int.eq_ofNat_of_zero_le hy.1
  rw [and_val 16 n m (by omega) (by omega), PyProof.Rows.bitAnd_pp hx.1 hy.1, Int.toNat_natCast, Int.toNat_natCast]
theorem val16 {x : Int} (hx : 0 ≤ x ∧ x < 65536) : val (bs 16 x) = x := by rw [val_bs]; omega
theorem or16 {x y : Int} (hx : 0 ≤ x ∧ x < 65536) (hy : 0 ≤ y ∧ y < 65536) : Builtin.bitOr x y = val (zw (fun a b => if b > a then b else a) (bs 16 x) (bs 16 y)) := by
  rw [zw_lin (k := 1) (fun a b ha hb => by rcases ha with rfl | rfl <;> rcases hb with rfl | rfl <;> decide) (by rw [bs_len, bs_len]) (bs_bits _ _) (bs_bits _ _), ← and16 hx hy, val16 hx, val16 hy]
  have e := PyProof.Rows.bitOr_and x y
  omega
theorem xor16 {x y : Int} (hx : 0 ≤ x ∧ x < 65536) (hy : 0 ≤ y ∧ y < 65536) : Builtin.bitXor x y = val (zw (fun a b => if a - b < 0 then -(a - b) else a - b) (bs 16 x) (bs 16 y)) := by
  rw [zw_lin (k := 2) (fun a b ha hb => by rcases ha with rfl | rfl <;> rcases hb with rfl | rfl <;> decide) (by rw [bs_len, bs_len]) (bs_bits _ _) (bs_bits _ _), ← and16 hx hy, val16 hx, val16 hy]
  have e := PyProof.Rows.bitOr_and x y
  unfold Builtin.bitXor
  omega
theorem and_or {x y : Int} : Builtin.bitAnd x y + Builtin.bitOr x y = x + y := by
  have e := PyProof.Rows.bitOr_and x y
  omega
theorem and_word {x y : Int} (hx : 0 ≤ x ∧ x < 65536) (hy : 0 ≤ y ∧ y < 65536) : 0 ≤ Builtin.bitAnd x y ∧ Builtin.bitAnd x y < 65536 := by
  rw [and16 hx hy]
  have h := val_lt (zw_bits (f := (· * ·)) (fun a b ha hb => by rcases ha with rfl | rfl <;> rcases hb with rfl | rfl <;> decide) (bs_bits 16 x) (bs_bits 16 y))
  rw [zw_len (by rw [bs_len, bs_len]), bs_len] at h
  exact h
theorem or_word {x y : Int} (hx : 0 ≤ x ∧ x < 65536) (hy : 0 ≤ y ∧ y < 65536) : 0 ≤ Builtin.bitOr x y ∧ Builtin.bitOr x y < 65536 := by
  rw [or16 hx hy]
  have h := val_lt (zw_bits (f := (fun a b => if b > a then b else a)) (fun a b ha hb => by rcases ha with rfl | rfl <;> rcases hb with rfl | rfl <;> decide) (bs_bits 16 x) (bs_bits 16 y))
  rw [zw_len (by rw [bs_len, bs_len]), bs_len] at h
  exact h
/-! turned bits -/
theorem turn_val : ∀ {l : List Int}, val (l.map (1 - ·)) = 2 ^ l.length - 1 - val l
  | [] => by simp [val]
  | b :: l => by
    simp only [List.map_cons, val, turn_val (l := l), List.length_cons, Int.pow_succ]
    omega
theorem turn_bits {l : List Int} (h : Bits l) : Bits (l.map (1 - ·)) := fun x hx => by
  obtain ⟨y, hy, rfl⟩ := List.mem_map.mp hx
  have := h y hy
  omega
/-! the reading of a row -/
theorem fold_val : ∀ l : List Int, l.reverse.foldl (fun acc b => acc * 2 + b) 0 = val l
  | [] => rfl
  | b :: l => by rw [List.reverse_cons, List.foldl_append, fold_val l]; rfl
theorem val_take {l : List Int} (h : Bits l) {k : Nat} (hk : k ≤ l.length) : val (l.take k) = val l % 2 ^ k := by
  have e := val_app (l.take k) (l.drop k)
  rw [List.take_append_drop] at e
  have b := val_lt (h.take k)
  have n : (l.take k).length = k := by simp; omega
  rw [n] at e b
  rw [e, Int.add_mul_emod_self_right, Int.emod_eq_of_lt b.1 b.2]
theorem val_up {xs : List Int} (h : Bits xs) (l : xs.length = 16) {i : Nat} (hi : i ≤ 16) : val ((List.replicate i 0 ++ xs).take 16) = val xs * 2 ^ i % 65536 := by
  have e : (List.replicate i (0 : Int) ++ xs).take 16 = List.replicate i 0 ++ xs.take (16 - i) := by
    rw [List.take_append, List.length_replicate, List.take_of_length_le (by simp; omega)]
  rw [e, val_app, val_rep, List.length_replicate, val_take h (by omega), Int.zero_add]
  have p : (65536 : Int) = 2 ^ (16 - i) * 2 ^ i := by rw [← Int.pow_add, show 16 - i + i = 16 by omega]; rfl
  rw [p, Int.mul_comm (val xs) (2 ^ i), Int.mul_comm (2 ^ (16 - i)) (2 ^ i), Int.mul_emod_mul_of_pos _ _ (pow_pos i), Int.mul_comm]
theorem parts (x : Int) (l m : Nat) : x = x % 2 ^ l + (x / 2 ^ l % 2 ^ m) * 2 ^ l + (x / 2 ^ (l + m)) * (2 ^ l * 2 ^ m) := by
  have e1 := Int.mul_ediv_add_emod x (2 ^ l)
  have e2 := Int.mul_ediv_add_emod (x / 2 ^ l) (2 ^ m)
  have e3 : x / 2 ^ (l + m) = x / 2 ^ l / 2 ^ m := by rw [Int.pow_add, Int.ediv_ediv_of_nonneg (Int.le_of_lt (pow_pos l))]
  rw [e3]
  generalize x / 2 ^ l / 2 ^ m = C at *
  generalize x / 2 ^ l % 2 ^ m = B at *
  generalize x / 2 ^ l = d at *
  generalize x % 2 ^ l = A at *
  rw [← e1, ← e2]
  simp only [Int.mul_add, Int.add_mul, Int.mul_comm, Int.mul_left_comm, Int.mul_assoc]
  omega
theorem wb {x v : Int} {l m : Nat} (hx : 0 ≤ x ∧ x < 65536) (hlm : l + m ≤ 16) (hv : 0 ≤ v ∧ v < 2 ^ m) :
    val ((bs 16 x).take l ++ bs m v ++ (bs 16 x).drop (l + m)) = x + (v - x / 2 ^ l % 2 ^ m) * 2 ^ l ∧ (0 ≤ x + (v - x / 2 ^ l % 2 ^ m) * 2 ^ l ∧ x + (v - x / 2 ^ l % 2 ^ m) * 2 ^ l < 65536) ∧ (x + (v - x / 2 ^ l % 2 ^ m) * 2 ^ l) / 2 ^ l % 2 ^ m = v := by
  have e := parts x l m
  have pl := pow_pos l
  have pm := pow_pos m
  have a0 := Int.emod_nonneg x (show (2 : Int) ^ l ≠ 0 by omega)
  have a1 := Int.emod_lt_of_pos x pl
  have c0 : 0 ≤ x / 2 ^ (l + m) := Int.ediv_nonneg hx.1 (Int.le_of_lt (pow_pos _))
  have c1 : x / 2 ^ (l + m) < 2 ^ (16 - (l + m)) := by
    apply Int.ediv_lt_of_lt_mul (pow_pos _)
    rw [← Int.pow_add, show 16 - (l + m) + (l + m) = 16 by omega]
    exact hx.2
  have t : x + (v - x / 2 ^ l % 2 ^ m) * 2 ^ l = x % 2 ^ l + v * 2 ^ l + (x / 2 ^ (l + m)) * (2 ^ l * 2 ^ m) := by
    rw [Int.sub_mul]; omega
  have v1 : val ((bs 16 x).take l ++ bs m v ++ (bs 16 x).drop (l + m)) = x + (v - x / 2 ^ l % 2 ^ m) * 2 ^ l := by
    rw [t, val_app, val_app, List.length_append, take_bs _ _ _ (by omega), drop_bs _ _ _ (by omega), bs_len, bs_len, val_bs, val_bs, val_bs, Int.emod_eq_of_lt hv.1 hv.2, Int.emod_eq_of_lt c0 c1, Int.pow_add]
  refine ⟨v1, ?_, ?_⟩
  · have b : Bits ((bs 16 x).take l ++ bs m v ++ (bs 16 x).drop (l + m)) := (((bs_bits _ _).take l).app (bs_bits _ _)).app ((bs_bits _ _).drop _)
    have w := val_lt b
    have n : ((bs 16 x).take l ++ bs m v ++ (bs 16 x).drop (l + m)).length = 16 := by simp [bs_len]; omega
    rw [n, v1] at w
    exact w
  · rw [t]
    have e2 : x % 2 ^ l + v * 2 ^ l + x / 2 ^ (l + m) * (2 ^ l * 2 ^ m) = x % 2 ^ l + 2 ^ l * (v + 2 ^ m * (x / 2 ^ (l + m))) := by
      simp only [Int.mul_add, Int.add_mul, Int.mul_comm, Int.mul_left_comm, Int.mul_assoc]
      omega
    rw [e2, Int.add_mul_ediv_left _ _ (by omega), Int.ediv_eq_zero_of_lt a0 a1, Int.zero_add, Int.add_mul_emod_self_left, Int.emod_eq_of_lt hv.1 hv.2]
theorem times_step {X Y F G z : Int} {P : Int} (hF : F = X * Y % 65536) (hG : G = X * P % 65536) : (F + G + 0) % 65536 = X * (Y + P) % 65536 := by
  rw [hF, hG, Int.add_zero, ← Int.add_emod, Int.mul_add]
end K11M

set_option Elab.async false
set_option linter.all false
set_option maxRecDepth 100000
set_option maxHeartbeats 8000000

namespace K11
open PySem PySem.Spec PyProof.Rows L2 Hx
def top (i : Nat) : Stmt := PySem.Challenge.pw_orderlycore_k11_whole_words_bit_by_bit.main.body.getD i (.Pass ⟨0, 0, 0, 0⟩)
abbrev s_is_integer : Stmt := top 7
theorem sc_is_integer : FnScope ["value"] ["value"] (defScope s_is_integer) := ⟨rfl, rfl, rfl, by decide +kernel, rfl, by decide +kernel, by decide +kernel⟩
abbrev s_is_between : Stmt := top 8
theorem sc_is_between : FnScope ["value", "least", "most"] ["value", "least", "most"] (defScope s_is_between) := ⟨rfl, rfl, rfl, by decide +kernel, rfl, by decide +kernel, by decide +kernel⟩
abbrev s_is_word : Stmt := top 12
theorem sc_is_word : FnScope ["value"] ["value"] (defScope s_is_word) := ⟨rfl, rfl, rfl, by decide +kernel, rfl, by decide +kernel, by decide +kernel⟩
abbrev s_need_word : Stmt := top 13
theorem sc_need_word : FnScope ["value"] ["value"] (defScope s_need_word) := ⟨rfl, rfl, rfl, by decide +kernel, rfl, by decide +kernel, by decide +kernel⟩
abbrev s_need_words : Stmt := top 14
theorem sc_need_words : FnScope ["one", "other"] ["one", "other"] (defScope s_need_words) := ⟨rfl, rfl, rfl, by decide +kernel, rfl, by decide +kernel, by decide +kernel⟩
abbrev s_plus : Stmt := top 15
theorem sc_plus : FnScope ["one", "other"] ["one", "other"] (defScope s_plus) := ⟨rfl, rfl, rfl, by decide +kernel, rfl, by decide +kernel, by decide +kernel⟩
abbrev s_minus : Stmt := top 16
theorem sc_minus : FnScope ["one", "other"] ["one", "other"] (defScope s_minus) := ⟨rfl, rfl, rfl, by decide +kernel, rfl, by decide +kernel, by decide +kernel⟩
abbrev s_times : Stmt := top 17
theorem sc_times : FnScope ["one", "other"] ["one", "other"] (defScope s_times) := ⟨rfl, rfl, rfl, by decide +kernel, rfl, by decide +kernel, by decide +kernel⟩
abbrev s_over : Stmt := top 18
theorem sc_over : FnScope ["one", "other"] ["one", "other"] (defScope s_over) := ⟨rfl, rfl, rfl, by decide +kernel, rfl, by decide +kernel, by decide +kernel⟩
abbrev s_both : Stmt := top 19
theorem sc_both : FnScope ["one", "other"] ["one", "other"] (defScope s_both) := ⟨rfl, rfl, rfl, by decide +kernel, rfl, by decide +kernel, by decide +kernel⟩
abbrev s_either : Stmt := top 20
theorem sc_either : FnScope ["one", "other"] ["one", "other"] (defScope s_either) := ⟨rfl, rfl, rfl, by decide +kernel, rfl, by decide +kernel, by decide +kernel⟩
abbrev s_unlike : Stmt := top 21
theorem sc_unlike : FnScope ["one", "other"] ["one", "other"] (defScope s_unlike) := ⟨rfl, rfl, rfl, by decide +kernel, rfl, by decide +kernel, by decide +kernel⟩
abbrev s_need_shift : Stmt := top 22
theorem sc_need_shift : FnScope ["one", "many"] ["one", "many"] (defScope s_need_shift) := ⟨rfl, rfl, rfl, by decide +kernel, rfl, by decide +kernel, by decide +kernel⟩
abbrev s_shifted_up : Stmt := top 23
theorem sc_shifted_up : FnScope ["one", "many"] ["one", "many"] (defScope s_shifted_up) := ⟨rfl, rfl, rfl, by decide +kernel, rfl, by decide +kernel, by decide +kernel⟩
abbrev s_shifted_down : Stmt := top 24
theorem sc_shifted_down : FnScope ["one", "many"] ["one", "many"] (defScope s_shifted_down) := ⟨rfl, rfl, rfl, by decide +kernel, rfl, by decide +kernel, by decide +kernel⟩
abbrev s_signed : Stmt := top 25
theorem sc_signed : FnScope ["word"] ["word"] (defScope s_signed) := ⟨rfl, rfl, rfl, by decide +kernel, rfl, by decide +kernel, by decide +kernel⟩
abbrev s_need_bits : Stmt := top 26
theorem sc_need_bits : FnScope ["word", "low", "many"] ["word", "low", "many"] (defScope s_need_bits) := ⟨rfl, rfl, rfl, by decide +kernel, rfl, by decide +kernel, by decide +kernel⟩
abbrev s_bits : Stmt := top 27
theorem sc_bits : FnScope ["word", "low", "many"] ["word", "low", "many"] (defScope s_bits) := ⟨rfl, rfl, rfl, by decide +kernel, rfl, by decide +kernel, by decide +kernel⟩
abbrev s_with_bits : Stmt := top 28
theorem sc_with_bits : FnScope ["word", "low", "many", "value"] ["word", "low", "many", "value"] (defScope s_with_bits) := ⟨rfl, rfl, rfl, by decide +kernel, rfl, by decide +kernel, by decide +kernel⟩
abbrev s_Lpot : Stmt := top 30
theorem sc_Lpot : FnScope ["_law_script", "_law_k", "_law_cell"] ["_law_script", "_law_k"] (defScope s_Lpot) := ⟨rfl, rfl, rfl, by decide +kernel, rfl, by decide +kernel, by decide +kernel⟩
abbrev s_Ldraw : Stmt := top 31
theorem sc_Ldraw : FnScope ["_law_pot_here", "_law_size", "_law_digit"] ["_law_pot_here", "_law_size"] (defScope s_Ldraw) := ⟨rfl, rfl, rfl, by decide +kernel, rfl, by decide +kernel, by decide +kernel⟩
abbrev s_Lpick : Stmt := top 32
theorem sc_Lpick : FnScope ["_law_pot_here", "_law_some"] ["_law_pot_here", "_law_some"] (defScope s_Lpick) := ⟨rfl, rfl, rfl, by decide +kernel, rfl, by decide +kernel, by decide +kernel⟩
abbrev s_Lword : Stmt := top 33
theorem sc_Lword : FnScope ["_law_pot_here", "_law_way"] ["_law_pot_here"] (defScope s_Lword) := ⟨rfl, rfl, rfl, by decide +kernel, rfl, by decide +kernel, by decide +kernel⟩
abbrev s_Llist : Stmt := top 34
theorem sc_Llist : FnScope ["_law_word_here", "_law_found", "_law_turn"] ["_law_word_here"] (defScope s_Llist) := ⟨rfl, rfl, rfl, by decide +kernel, rfl, by decide +kernel, by decide +kernel⟩
abbrev s_Lof : Stmt := top 35
theorem sc_Lof : FnScope ["_law_row", "_law_found", "_law_bit"] ["_law_row"] (defScope s_Lof) := ⟨rfl, rfl, rfl, by decide +kernel, rfl, by decide +kernel, by decide +kernel⟩
abbrev s_Ladded : Stmt := top 36
theorem sc_Ladded : FnScope ["_law_one", "_law_other", "_law_carry", "_law_found", "_law_near", "_law_far", "_law_total"] ["_law_one", "_law_other", "_law_carry"] (defScope s_Ladded) := ⟨rfl, rfl, rfl, by decide +kernel, rfl, by decide +kernel, by decide +kernel⟩
abbrev s_Ltimes : Stmt := top 37
theorem sc_Ltimes : FnScope ["_law_one", "_law_other", "_law_found", "_law_at", "_law_bit"] ["_law_one", "_law_other"] (defScope s_Ltimes) := ⟨rfl, rfl, rfl, by decide +kernel, rfl, by decide +kernel, by decide +kernel⟩
abbrev s_Lsums_right : Stmt := top 38
theorem sc_Lsums_right : FnScope ["_law_one", "_law_other", "_law_near", "_law_far", "_law_turned", "_law_told", "_law_due", "_law_found", "_law_bit", "_law_row", "_law_a", "_law_b"] ["_law_one", "_law_other"] (defScope s_Lsums_right) := ⟨rfl, rfl, rfl, by decide +kernel, rfl, by decide +kernel, by decide +kernel⟩
abbrev s_Lshifts_right : Stmt := top 39
theorem sc_Lshifts_right : FnScope ["_law_word_here", "_law_many", "_law_row", "_law_least", "_law_up", "_law_down"] ["_law_word_here", "_law_many"] (defScope s_Lshifts_right) := ⟨rfl, rfl, rfl, by decide +kernel, rfl, by decide +kernel, by decide +kernel⟩
abbrev s_Lbits_right : Stmt := top 40
theorem sc_Lbits_right : FnScope ["_law_word_here", "_law_low", "_law_many", "_law_value", "_law_row", "_law_new", "_law_told"] ["_law_word_here", "_law_low", "_law_many", "_law_value"] (defScope s_Lbits_right) := ⟨rfl, rfl, rfl, by decide +kernel, rfl, by decide +kernel, by decide +kernel⟩
abbrev s_law : Stmt := top 41
theorem sc_law : FnScope ["_law_script", "_law_pot_here", "_law_turn", "_law_one", "_law_other", "_law_shift", "_law_low", "_law_many"] ["_law_script"] (defScope s_law) := ⟨rfl, rfl, rfl, by decide +kernel, rfl, by decide +kernel, by decide +kernel⟩
structure Txt (K : PySem.W.Frag) (mg : Str → Option Value) where
  f_is_integer : Addr
  fd_is_integer : FuncData
  F_is_integer : Fun K "is_integer" "is_integer" s_is_integer f_is_integer fd_is_integer
  g_is_integer : mg "is_integer" = some (.ref f_is_integer)
  b_is_integer : Binds K fd_is_integer ["value"] []
  f_is_between : Addr
  fd_is_between : FuncData
  F_is_between : Fun K "is_between" "is_between" s_is_between f_is_between fd_is_between
  g_is_between : mg "is_between" = some (.ref f_is_between)
  b_is_between : Binds K fd_is_between ["value", "least", "most"] []
  f_is_word : Addr
  fd_is_word : FuncData
  F_is_word : Fun K "is_word" "is_word" s_is_word f_is_word fd_is_word
  g_is_word : mg "is_word" = some (.ref f_is_word)
  b_is_word : Binds K fd_is_word ["value"] []
  f_need_word : Addr
  fd_need_word : FuncData
  F_need_word : Fun K "need_word" "need_word" s_need_word f_need_word fd_need_word
  g_need_word : mg "need_word" = some (.ref f_need_word)
  b_need_word : Binds K fd_need_word ["value"] []
  f_need_words : Addr
  fd_need_words : FuncData
  F_need_words : Fun K "need_words" "need_words" s_need_words f_need_words fd_need_words
  g_need_words : mg "need_words" = some (.ref f_need_words)
  b_need_words : Binds K fd_need_words ["one", "other"] []
  f_plus : Addr
  fd_plus : FuncData
  F_plus : Fun K "plus" "plus" s_plus f_plus fd_plus
  g_plus : mg "plus" = some (.ref f_plus)
  b_plus : Binds K fd_plus ["one", "other"] []
  f_minus : Addr
  fd_minus : FuncData
  F_minus : Fun K "minus" "minus" s_minus f_minus fd_minus
  g_minus : mg "minus" = some (.ref f_minus)
  b_minus : Binds K fd_minus ["one", "other"] []
  f_times : Addr
  fd_times : FuncData
  F_times : Fun K "times" "times" s_times f_times fd_times
  g_times : mg "times" = some (.ref f_times)
  b_times : Binds K fd_times ["one", "other"] []
  kb_times : KBinds K fd_times ["one", "other"] ["one", "other"] kwG kwG
  f_over : Addr
  fd_over : FuncData
  F_over : Fun K "over" "over" s_over f_over fd_over
  g_over : mg "over" = some (.ref f_over)
  b_over : Binds K fd_over ["one", "other"] []
  f_both : Addr
  fd_both : FuncData
  F_both : Fun K "both" "both" s_both f_both fd_both
  g_both : mg "both" = some (.ref f_both)
  b_both : Binds K fd_both ["one", "other"] []
  f_either : Addr
  fd_either : FuncData
  F_either : Fun K "either" "either" s_either f_either fd_either
  g_either : mg "either" = some (.ref f_either)
  b_either : Binds K fd_either ["one", "other"] []
  f_unlike : Addr
  fd_unlike : FuncData
  F_unlike : Fun K "unlike" "unlike" s_unlike f_unlike fd_unlike
  g_unlike : mg "unlike" = some (.ref f_unlike)
  b_unlike : Binds K fd_unlike ["one", "other"] []
  f_need_shift : Addr
  fd_need_shift : FuncData
  F_need_shift : Fun K "need_shift" "need_shift" s_need_shift f_need_shift fd_need_shift
  g_need_shift : mg "need_shift" = some (.ref f_need_shift)
  b_need_shift : Binds K fd_need_shift ["one", "many"] []
  f_shifted_up : Addr
  fd_shifted_up : FuncData
  F_shifted_up : Fun K "shifted_up" "shifted_up" s_shifted_up f_shifted_up fd_shifted_up
  g_shifted_up : mg "shifted_up" = some (.ref f_shifted_up)
  b_shifted_up : Binds K fd_shifted_up ["one", "many"] []
  f_shifted_down : Addr
  fd_shifted_down : FuncData
  F_shifted_down : Fun K "shifted_down" "shifted_down" s_shifted_down f_shifted_down fd_shifted_down
  g_shifted_down : mg "shifted_down" = some (.ref f_shifted_down)
  b_shifted_down : Binds K fd_shifted_down ["one", "many"] []
  kb_shifted_down : KBinds K fd_shifted_down ["one", "many"] ["one", "many"] kwG kwG
  f_signed : Addr
  fd_signed : FuncData
  F_signed : Fun K "signed" "signed" s_signed f_signed fd_signed
  g_signed : mg "signed" = some (.ref f_signed)
  b_signed : Binds K fd_signed ["word"] []
  f_need_bits : Addr
  fd_need_bits : FuncData
  F_need_bits : Fun K "need_bits" "need_bits" s_need_bits f_need_bits fd_need_bits
  g_need_bits : mg "need_bits" = some (.ref f_need_bits)
  b_need_bits : Binds K fd_need_bits ["word", "low", "many"] []
  f_bits : Addr
  fd_bits : FuncData
  F_bits : Fun K "bits" "bits" s_bits f_bits fd_bits
  g_bits : mg "bits" = some (.ref f_bits)
  b_bits : Binds K fd_bits ["word", "low", "many"] []
  f_with_bits : Addr
  fd_with_bits : FuncData
  F_with_bits : Fun K "with_bits" "with_bits" s_with_bits f_with_bits fd_with_bits
  g_with_bits : mg "with_bits" = some (.ref f_with_bits)
  b_with_bits : Binds K fd_with_bits ["word", "low", "many", "value"] []
  f_Lpot : Addr
  fd_Lpot : FuncData
  F_Lpot : Fun K "_law_pot" "_law_pot" s_Lpot f_Lpot fd_Lpot
  g_Lpot : mg "_law_pot" = some (.ref f_Lpot)
  b_Lpot : Binds K fd_Lpot ["_law_script", "_law_k"] []
  f_Ldraw : Addr
  fd_Ldraw : FuncData
  F_Ldraw : Fun K "_law_draw" "_law_draw" s_Ldraw f_Ldraw fd_Ldraw
  g_Ldraw : mg "_law_draw" = some (.ref f_Ldraw)
  b_Ldraw : Binds K fd_Ldraw ["_law_pot_here", "_law_size"] []
  f_Lpick : Addr
  fd_Lpick : FuncData
  F_Lpick : Fun K "_law_pick" "_law_pick" s_Lpick f_Lpick fd_Lpick
  g_Lpick : mg "_law_pick" = some (.ref f_Lpick)
  b_Lpick : Binds K fd_Lpick ["_law_pot_here", "_law_some"] []
  f_Lword : Addr
  fd_Lword : FuncData
  F_Lword : Fun K "_law_word" "_law_word" s_Lword f_Lword fd_Lword
  g_Lword : mg "_law_word" = some (.ref f_Lword)
  b_Lword : Binds K fd_Lword ["_law_pot_here"] []
  f_Llist : Addr
  fd_Llist : FuncData
  F_Llist : Fun K "_law_list" "_law_list" s_Llist f_Llist fd_Llist
  g_Llist : mg "_law_list" = some (.ref f_Llist)
  b_Llist : Binds K fd_Llist ["_law_word_here"] []
  f_Lof : Addr
  fd_Lof : FuncData
  F_Lof : Fun K "_law_of" "_law_of" s_Lof f_Lof fd_Lof
  g_Lof : mg "_law_of" = some (.ref f_Lof)
  b_Lof : Binds K fd_Lof ["_law_row"] []
  f_Ladded : Addr
  fd_Ladded : FuncData
  F_Ladded : Fun K "_law_added" "_law_added" s_Ladded f_Ladded fd_Ladded
  g_Ladded : mg "_law_added" = some (.ref f_Ladded)
  b_Ladded : Binds K fd_Ladded ["_law_one", "_law_other", "_law_carry"] []
  f_Ltimes : Addr
  fd_Ltimes : FuncData
  F_Ltimes : Fun K "_law_times" "_law_times" s_Ltimes f_Ltimes fd_Ltimes
  g_Ltimes : mg "_law_times" = some (.ref f_Ltimes)
  b_Ltimes : Binds K fd_Ltimes ["_law_one", "_law_other"] []
  f_Lsums_right : Addr
  fd_Lsums_right : FuncData
  F_Lsums_right : Fun K "_law_sums_right" "_law_sums_right" s_Lsums_right f_Lsums_right fd_Lsums_right
  g_Lsums_right : mg "_law_sums_right" = some (.ref f_Lsums_right)
  b_Lsums_right : Binds K fd_Lsums_right ["_law_one", "_law_other"] []
  f_Lshifts_right : Addr
  fd_Lshifts_right : FuncData
  F_Lshifts_right : Fun K "_law_shifts_right" "_law_shifts_right" s_Lshifts_right f_Lshifts_right fd_Lshifts_right
  g_Lshifts_right : mg "_law_shifts_right" = some (.ref f_Lshifts_right)
  b_Lshifts_right : Binds K fd_Lshifts_right ["_law_word_here", "_law_many"] []
  f_Lbits_right : Addr
  fd_Lbits_right : FuncData
  F_Lbits_right : Fun K "_law_bits_right" "_law_bits_right" s_Lbits_right f_Lbits_right fd_Lbits_right
  g_Lbits_right : mg "_law_bits_right" = some (.ref f_Lbits_right)
  b_Lbits_right : Binds K fd_Lbits_right ["_law_word_here", "_law_low", "_law_many", "_law_value"] []
  f_law : Addr
  fd_law : FuncData
  F_law : Fun K "law" "law" s_law f_law fd_law
  g_law : mg "law" = some (.ref f_law)
  b_law : Binds K fd_law ["_law_script"] []
  m_abs : mg "abs" = none
  m_bool : mg "bool" = none
  m_divmod : mg "divmod" = none
  m_enumerate : mg "enumerate" = none
  m_int : mg "int" = none
  m_isinstance : mg "isinstance" = none
  m_len : mg "len" = none
  m_max : mg "max" = none
  m_min : mg "min" = none
  m_range : mg "range" = none
  m_zip : mg "zip" = none
  c__WORD_BITS : ∃ t, mg "_WORD_BITS" = some (.int 16 t)
  c_WORDS : ∃ t, mg "WORDS" = some (.int 65536 t)
end K11

set_option Elab.async false
set_option linter.all false
set_option maxRecDepth 100000
set_option maxHeartbeats 8000000

namespace K11
open PySem PySem.Spec PyProof.Rows L2 Hx K11M
local macro_rules | `(tactic| walk_at "sm") => `(tactic| repeat' (first | assumption | apply Hx.Same.upd | exact L2.Same.refl _ | apply same_trans'))
local macro_rules | `(tactic| walk_at "hp") => `(tactic| repeat' (first | assumption | exact upd_same | apply old_upd | apply same_at))
local macro_rules | `(tactic| walk_at "rd") => `(tactic| repeat' (first | rfl | apply Exists.intro | apply And.intro | refine iteT ?_ | refine iteF ?_ | exact upd_same | exact SqL.of (by assumption) | exact SqL.of upd_same | exact SqT.of upd_same | exact SqT.of (by assumption) | ((with_reducible show (_ : Int) < _); omega) | ((with_reducible show (_ : Int) ≤ _); omega) | (show (_ : Prop); assumption) | exact Or.inl ⟨_, by assumption, rfl⟩ | exact Or.inl ⟨rfl, _, SqL.of (by assumption)⟩ | exact Or.inl ⟨rfl, _, SqL.of upd_same⟩ | apply old_upd | apply Hx.SqL.new | apply tyl_new | apply Pot.new | exact same_at (by assumption) (by assumption) | exact Or.inl (SqL.of (by assumption)) | exact Or.inl (by assumption) | exact Or.inl (SqL.of upd_same) | exact size_le (Nat.le_of_ble_eq_true rfl) | exact Nat.le_of_ble_eq_true rfl | exact True.intro | exact Or.inl rfl | exact Or.inr rfl | (show (_ : Prop); omega) | (show (_ : Prop); dsimp only; omega) | exact mulw64 (by omega) (by omega) | exact mulw64 (by (try dsimp only); omega) (by (try dsimp only); omega)))

section
variable {P : Program} {w : World} {K : PySem.W.Frag} {mg : Str → Option Value} {base : Heap}
def sp_is_integer : Sp := fun vs H Q _ => ∃ i : Int, vs = [.int i] ∧ Q (.bl true) H
theorem ok_is_integer (T : Txt K mg) : FnOk P w K mg base CX0 1 T.f_is_integer T.fd_is_integer ["value"] (sp_is_integer) := by
  refine T.F_is_integer.ok sc_is_integer (fun vs H Q E h => ?_) (fun cdv A outer s H vs Q E hr h => ?_)
  · obtain ⟨i, rfl, k⟩ := h; rfl
  · obtain ⟨i, rfl, k⟩ := h
    refine ⟨_, (pss_one (ps_ret (pe_and (pe_callB call_isi (by rfl) T.m_isinstance (by decide +kernel) (pa_cons (pv 0) (pa_cons (pe_bltn (v := .ty "int") (u := .type "int") (by rfl) T.m_int (by decide +kernel) rfl) pa_nil))) (pe_one (pe_not (pe_callB call_isi (by rfl) T.m_isinstance (by decide +kernel) (pa_cons (pv 0) (pa_cons (pe_bltn (v := .ty "bool") (u := .type "bool") (by rfl) T.m_bool (by decide +kernel) rfl) pa_nil)))))))), ?_⟩
    clear hr
    refine ⟨_, rfl, _, _, _, _, true, rfl, .ty _, .base (.int _), kit_ty (by decide +kernel), true, rfl, iteT ?_⟩
    refine ⟨_, rfl, _, _, _, _, false, rfl, .ty _, .base (.int _), kit_ty (by decide +kernel), false, rfl, k⟩
def sp_is_between : Sp := fun vs H Q _ => ∃ i a b : Int, vs = [.int i, .int a, .int b] ∧ Q (.bl (decide (a ≤ i ∧ i ≤ b))) H
theorem ok_is_between (T : Txt K mg) : FnOk P w K mg base CX0 2 T.f_is_between T.fd_is_between ["value", "least", "most"] (sp_is_between) := by
  have G_is_integer := ok_is_integer (P := P) (w := w) (base := base) T
  refine T.F_is_between.ok sc_is_between (fun vs H Q E h => ?_) (fun cdv A outer s H vs Q E hr h => ?_)
  · obtain ⟨i, a, b, rfl, k⟩ := h; rfl
  · obtain ⟨i, a, b, rfl, k⟩ := h
    refine ⟨_, (pss_one (ps_ret (pe_and (pe_call G_is_integer (hr.mono (by decide)) rfl T.g_is_integer T.F_is_integer.kp T.b_is_integer .nil pass0 (pa_cons (pv 0) pa_nil)) (pe_one (pe_chain op_le op_le (pv 1) (pv 0) (pv 2)))))), ?_⟩
    clear G_is_integer
    clear hr
    walk_at "rd"
    refine iteD (fun h1 => ?_) (fun h1 => ?_)
    · walk_at "rd"; exact qbl k (by simp [h1])
    · exact qbl k (by simp [h1])
def sp_is_word : Sp := fun vs H Q _ => ∃ i : Int, vs = [.int i] ∧ (0 ≤ i ∧ i < 65536) ∧ Q (.bl true) H
theorem ok_is_word (T : Txt K mg) : FnOk P w K mg base CX0 3 T.f_is_word T.fd_is_word ["value"] (sp_is_word) := by
  have G_is_between := ok_is_between (P := P) (w := w) (base := base) T
  refine T.F_is_word.ok sc_is_word (fun vs H Q E h => ?_) (fun cdv A outer s H vs Q E hr h => ?_)
  · obtain ⟨i, rfl, hi, k⟩ := h; rfl
  · obtain ⟨i, rfl, hi, k⟩ := h
    refine ⟨_, (pss_one (ps_ret (pe_call G_is_between (hr.mono (by decide)) rfl T.g_is_between T.F_is_between.kp T.b_is_between .nil pass0 (pa_cons (pv 0) (pa_cons pe_int (pa_cons (pe_op op_sub (pe_gint rfl T.c_WORDS) pe_int) pa_nil)))))), ?_⟩
    clear G_is_between
    clear hr
    walk_at "rd"
    exact qbl k (decide_eq_true (by omega))
def sp_need_word : Sp := fun vs H Q _ => ∃ i : Int, vs = [.int i] ∧ (0 ≤ i ∧ i < 65536) ∧ Q .non H
theorem ok_need_word (T : Txt K mg) : FnOk P w K mg base CX0 4 T.f_need_word T.fd_need_word ["value"] (sp_need_word) := by
  have G_is_word := ok_is_word (P := P) (w := w) (base := base) T
  refine T.F_need_word.ok sc_need_word (fun vs H Q E h => ?_) (fun cdv A outer s H vs Q E hr h => ?_)
  · obtain ⟨i, rfl, hi, k⟩ := h; rfl
  · obtain ⟨i, rfl, hi, k⟩ := h
    refine ⟨_, (pss_one (ps_if (pt_not (pt_val (pe_call G_is_word (hr.mono (by decide)) rfl T.g_is_word T.F_is_word.kp T.b_is_word .nil pass0 (pa_cons (pv 0) pa_nil))))
          (pss_one ps_never)
          pss_nil)), ?_⟩
    clear G_is_word
    clear hr
    walk_at "rd"
def sp_need_words : Sp := fun vs H Q _ => ∃ i j : Int, vs = [.int i, .int j] ∧ (0 ≤ i ∧ i < 65536) ∧ (0 ≤ j ∧ j < 65536) ∧ Q .non H
/-- of two words -/
def spWW (C : Int → Int → Prop) (f : Int → Int → Int) : Sp := fun vs H Q _ => ∃ i j : Int, vs = [.int i, .int j] ∧ (0 ≤ i ∧ i < 65536) ∧ (0 ≤ j ∧ j < 65536) ∧ C i j ∧ Q (.int (f i j)) H
theorem ok_need_words (T : Txt K mg) : FnOk P w K mg base CX0 5 T.f_need_words T.fd_need_words ["one", "other"] (sp_need_words) := by
  have G_need_word := ok_need_word (P := P) (w := w) (base := base) T
  refine T.F_need_words.ok sc_need_words (fun vs H Q E h => ?_) (fun cdv A outer s H vs Q E hr h => ?_)
  · obtain ⟨i, j, rfl, hi, hj, k⟩ := h; rfl
  · obtain ⟨i, j, rfl, hi, hj, k⟩ := h
    refine ⟨_, (pss_cons (ps_expr (pe_call G_need_word (hr.mono (by decide)) rfl T.g_need_word T.F_need_word.kp T.b_need_word .nil pass0 (pa_cons (pv 0) pa_nil)))
        (pss_one (ps_expr (pe_call G_need_word (hr.mono (by decide)) rfl T.g_need_word T.F_need_word.kp T.b_need_word .nil pass0 (pa_cons (pv 1) pa_nil))))), ?_⟩
    clear G_need_word
    clear hr
    walk_at "rd"

theorem ok_plus (T : Txt K mg) : FnOk P w K mg base CX0 6 T.f_plus T.fd_plus ["one", "other"] (spWW (fun _ _ => True) (fun i j => (i + j) % 65536)) := by
  have G_need_words := ok_need_words (P := P) (w := w) (base := base) T
  refine T.F_plus.ok sc_plus (fun vs H Q E h => ?_) (fun cdv A outer s H vs Q E hr h => ?_)
  · obtain ⟨i, j, rfl, hi, hj, _, k⟩ := h; rfl
  · obtain ⟨i, j, rfl, hi, hj, _, k⟩ := h
    refine ⟨_, (pss_cons (ps_expr (pe_call G_need_words (hr.mono (by decide)) rfl T.g_need_words T.F_need_words.kp T.b_need_words .nil pass0 (pa_cons (pv 0) (pa_cons (pv 1) pa_nil))))
        (pss_one (ps_ret (pe_op op_mod (pe_op op_add (pv 0) (pv 1)) (pe_gint rfl T.c_WORDS))))), ?_⟩
    clear G_need_words
    clear hr
    walk_at "rd"

theorem ok_minus (T : Txt K mg) : FnOk P w K mg base CX0 6 T.f_minus T.fd_minus ["one", "other"] (spWW (fun _ _ => True) (fun i j => (i - j) % 65536)) := by
  have G_need_words := ok_need_words (P := P) (w := w) (base := base) T
  refine T.F_minus.ok sc_minus (fun vs H Q E h => ?_) (fun cdv A outer s H vs Q E hr h => ?_)
  · obtain ⟨i, j, rfl, hi, hj, _, k⟩ := h; rfl
  · obtain ⟨i, j, rfl, hi, hj, _, k⟩ := h
    refine ⟨_, (pss_cons (ps_expr (pe_call G_need_words (hr.mono (by decide)) rfl T.g_need_words T.F_need_words.kp T.b_need_words .nil pass0 (pa_cons (pv 0) (pa_cons (pv 1) pa_nil))))
        (pss_one (ps_ret (pe_op op_mod (pe_op op_sub (pv 0) (pv 1)) (pe_gint rfl T.c_WORDS))))), ?_⟩
    clear G_need_words
    clear hr
    walk_at "rd"

theorem ok_times (T : Txt K mg) : FnOk P w K mg base CX0 6 T.f_times T.fd_times ["one", "other"] (spWW (fun _ _ => True) (fun i j => (i * j) % 65536)) := by
  have G_need_words := ok_need_words (P := P) (w := w) (base := base) T
  refine T.F_times.ok sc_times (fun vs H Q E h => ?_) (fun cdv A outer s H vs Q E hr h => ?_)
  · obtain ⟨i, j, rfl, hi, hj, _, k⟩ := h; rfl
  · obtain ⟨i, j, rfl, hi, hj, _, k⟩ := h
    refine ⟨_, (pss_cons (ps_expr (pe_call G_need_words (hr.mono (by decide)) rfl T.g_need_words T.F_need_words.kp T.b_need_words .nil pass0 (pa_cons (pv 0) (pa_cons (pv 1) pa_nil))))
        (pss_one (ps_ret (pe_op op_mod (pe_op op_mulW (pv 0) (pv 1)) (pe_gint rfl T.c_WORDS))))), ?_⟩
    clear G_need_words
    clear hr
    walk_at "rd"

theorem ok_over (T : Txt K mg) : FnOk P w K mg base CX0 6 T.f_over T.fd_over ["one", "other"] (spWW (fun _ j => 0 < j) (fun i j => i / j)) := by
  have G_need_words := ok_need_words (P := P) (w := w) (base := base) T
  refine T.F_over.ok sc_over (fun vs H Q E h => ?_) (fun cdv A outer s H vs Q E hr h => ?_)
  · obtain ⟨i, j, rfl, hi, hj, c, k⟩ := h; rfl
  · obtain ⟨i, j, rfl, hi, hj, c, k⟩ := h
    refine ⟨_, (pss_cons (ps_expr (pe_call G_need_words (hr.mono (by decide)) rfl T.g_need_words T.F_need_words.kp T.b_need_words .nil pass0 (pa_cons (pv 0) (pa_cons (pv 1) pa_nil))))
        (pss_cons (ps_if (pt_cmpR op_eq (pv 1) pe_int (nomark _))
          (pss_one ps_never)
          pss_nil)
        (pss_one (ps_ret (pe_op op_fdiv (pv 0) (pv 1)))))), ?_⟩
    clear G_need_words
    clear hr
    walk_at "rd"
    refine iteD (fun h => absurd (V.int.inj h) (by omega)) (fun _ => ?_)
    walk_at "rd"

theorem ok_both (T : Txt K mg) : FnOk P w K mg base CX0 6 T.f_both T.fd_both ["one", "other"] (spWW (fun _ _ => True) Builtin.bitAnd) := by
  have G_need_words := ok_need_words (P := P) (w := w) (base := base) T
  refine T.F_both.ok sc_both (fun vs H Q E h => ?_) (fun cdv A outer s H vs Q E hr h => ?_)
  · obtain ⟨i, j, rfl, hi, hj, _, k⟩ := h; rfl
  · obtain ⟨i, j, rfl, hi, hj, _, k⟩ := h
    refine ⟨_, (pss_cons (ps_expr (pe_call G_need_words (hr.mono (by decide)) rfl T.g_need_words T.F_need_words.kp T.b_need_words .nil pass0 (pa_cons (pv 0) (pa_cons (pv 1) pa_nil))))
        (pss_one (ps_ret (pe_op op_and (pv 0) (pv 1))))), ?_⟩
    clear G_need_words
    clear hr
    walk_at "rd"

theorem ok_either (T : Txt K mg) : FnOk P w K mg base CX0 6 T.f_either T.fd_either ["one", "other"] (spWW (fun _ _ => True) Builtin.bitOr) := by
  have G_need_words := ok_need_words (P := P) (w := w) (base := base) T
  refine T.F_either.ok sc_either (fun vs H Q E h => ?_) (fun cdv A outer s H vs Q E hr h => ?_)
  · obtain ⟨i, j, rfl, hi, hj, _, k⟩ := h; rfl
  · obtain ⟨i, j, rfl, hi, hj, _, k⟩ := h
    refine ⟨_, (pss_cons (ps_expr (pe_call G_need_words (hr.mono (by decide)) rfl T.g_need_words T.F_need_words.kp T.b_need_words .nil pass0 (pa_cons (pv 0) (pa_cons (pv 1) pa_nil))))
        (pss_one (ps_ret (pe_op op_or (pv 0) (pv 1))))), ?_⟩
    clear G_need_words
    clear hr
    walk_at "rd"

theorem ok_unlike (T : Txt K mg) : FnOk P w K mg base CX0 6 T.f_unlike T.fd_unlike ["one", "other"] (spWW (fun _ _ => True) Builtin.bitXor) := by
  have G_need_words := ok_need_words (P := P) (w := w) (base := base) T
  refine T.F_unlike.ok sc_unlike (fun vs H Q E h => ?_) (fun cdv A outer s H vs Q E hr h => ?_)
  · obtain ⟨i, j, rfl, hi, hj, _, k⟩ := h; rfl
  · obtain ⟨i, j, rfl, hi, hj, _, k⟩ := h
    refine ⟨_, (pss_cons (ps_expr (pe_call G_need_words (hr.mono (by decide)) rfl T.g_need_words T.F_need_words.kp T.b_need_words .nil pass0 (pa_cons (pv 0) (pa_cons (pv 1) pa_nil))))
        (pss_one (ps_ret (pe_op op_xor (pv 0) (pv 1))))), ?_⟩
    clear G_need_words
    clear hr
    walk_at "rd"

theorem ok_need_shift (T : Txt K mg) : FnOk P w K mg base CX0 5 T.f_need_shift T.fd_need_shift ["one", "many"] (sp_need_words) := by
  have G_need_word := ok_need_word (P := P) (w := w) (base := base) T
  have G_is_word := ok_is_word (P := P) (w := w) (base := base) T
  refine T.F_need_shift.ok sc_need_shift (fun vs H Q E h => ?_) (fun cdv A outer s H vs Q E hr h => ?_)
  · obtain ⟨i, j, rfl, hi, hj, k⟩ := h; rfl
  · obtain ⟨i, j, rfl, hi, hj, k⟩ := h
    refine ⟨_, (pss_cons (ps_expr (pe_call G_need_word (hr.mono (by decide)) rfl T.g_need_word T.F_need_word.kp T.b_need_word .nil pass0 (pa_cons (pv 0) pa_nil)))
        (pss_one (ps_if (pt_not (pt_val (pe_call G_is_word (hr.mono (by decide)) rfl T.g_is_word T.F_is_word.kp T.b_is_word .nil pass0 (pa_cons (pv 1) pa_nil))))
          (pss_one ps_never)
          pss_nil))), ?_⟩
    clear G_need_word G_is_word
    clear hr
    walk_at "rd"

theorem ok_shifted_up (T : Txt K mg) : FnOk P w K mg base CX0 6 T.f_shifted_up T.fd_shifted_up ["one", "many"] (spWW (fun _ _ => True) (fun i j => if 16 ≤ j then 0 else i * 2 ^ j.toNat % 65536)) := by
  have G_need_shift := ok_need_shift (P := P) (w := w) (base := base) T
  refine T.F_shifted_up.ok sc_shifted_up (fun vs H Q E h => ?_) (fun cdv A outer s H vs Q E hr h => ?_)
  · obtain ⟨i, j, rfl, hi, hj, _, k⟩ := h; rfl
  · obtain ⟨i, j, rfl, hi, hj, _, k⟩ := h
    refine ⟨_, (pss_cons (ps_expr (pe_call G_need_shift (hr.mono (by decide)) rfl T.g_need_shift T.F_need_shift.kp T.b_need_shift .nil pass0 (pa_cons (pv 0) (pa_cons (pv 1) pa_nil))))
        (pss_cons (ps_if (pt_cmpR op_ge (pv 1) (pe_gint rfl T.c__WORD_BITS) (nomark _))
          (pss_one (ps_ret pe_int))
          pss_nil)
        (pss_one (ps_ret (pe_op op_mod (pe_op op_shl (pv 0) (pv 1)) (pe_gint rfl T.c_WORDS)))))), ?_⟩
    clear G_need_shift
    clear hr
    walk_at "rd"
    refine iteD (fun h => ?_) (fun h => ?_)
    · exact qint k (by simp [h])
    · walk_at "rd"
      exact qint k (by simp [h])

theorem ok_shifted_down (T : Txt K mg) : FnOk P w K mg base CX0 6 T.f_shifted_down T.fd_shifted_down ["one", "many"] (spWW (fun _ _ => True) (fun i j => i / 2 ^ j.toNat)) := by
  have G_need_shift := ok_need_shift (P := P) (w := w) (base := base) T
  refine T.F_shifted_down.ok sc_shifted_down (fun vs H Q E h => ?_) (fun cdv A outer s H vs Q E hr h => ?_)
  · obtain ⟨i, j, rfl, hi, hj, _, k⟩ := h; rfl
  · obtain ⟨i, j, rfl, hi, hj, _, k⟩ := h
    refine ⟨_, (pss_cons (ps_expr (pe_call G_need_shift (hr.mono (by decide)) rfl T.g_need_shift T.F_need_shift.kp T.b_need_shift .nil pass0 (pa_cons (pv 0) (pa_cons (pv 1) pa_nil))))
        (pss_one (ps_ret (pe_op op_shr (pv 0) (pv 1))))), ?_⟩
    clear G_need_shift
    clear hr
    walk_at "rd"
def sp_signed : Sp := fun vs H Q _ => ∃ i : Int, vs = [.int i] ∧ (0 ≤ i ∧ i < 65536) ∧ Q (.int (if 32768 ≤ i then i - 65536 else i)) H
theorem ok_signed (T : Txt K mg) : FnOk P w K mg base CX0 5 T.f_signed T.fd_signed ["word"] (sp_signed) := by
  have G_need_word := ok_need_word (P := P) (w := w) (base := base) T
  refine T.F_signed.ok sc_signed (fun vs H Q E h => ?_) (fun cdv A outer s H vs Q E hr h => ?_)
  · obtain ⟨i, rfl, hi, k⟩ := h; rfl
  · obtain ⟨i, rfl, hi, k⟩ := h
    refine ⟨_, (pss_cons (ps_expr (pe_call G_need_word (hr.mono (by decide)) rfl T.g_need_word T.F_need_word.kp T.b_need_word .nil pass0 (pa_cons (pv 0) pa_nil)))
        (pss_cons (ps_if (pt_cmpR op_ge (pv 0) (pe_op op_fdiv (pe_gint rfl T.c_WORDS) pe_int) (nomark _))
          (pss_one (ps_ret (pe_op op_sub (pv 0) (pe_gint rfl T.c_WORDS))))
          pss_nil)
        (pss_one (ps_ret (pv 0))))), ?_⟩
    clear G_need_word
    clear hr
    walk_at "rd"
    refine iteD (fun h => ?_) (fun h => ?_)
    · walk_at "rd"; exact qint k (by rw [if_pos (show (32768 : Int) ≤ i by omega)])
    · walk_at "rd"; exact qint k (by rw [if_neg (show ¬ (32768 : Int) ≤ i by omega)])
def sp_need_bits : Sp := fun vs H Q _ => ∃ (i : Int) (l m : Nat), vs = [.int i, .int (l : Int), .int (m : Int)] ∧ (0 ≤ i ∧ i < 65536) ∧ l ≤ 15 ∧ 1 ≤ m ∧ l + m ≤ 16 ∧ Q .non H
theorem pow16 {m : Nat} (h : m ≤ 16) : (0 : Int) < 2 ^ m ∧ (2 : Int) ^ m ≤ 65536 := by
  have e : ∀ k : Nat, k ≤ 16 → (0 : Int) < 2 ^ k ∧ (2 : Int) ^ k ≤ 65536 := by decide
  exact e m h
theorem ok_need_bits (T : Txt K mg) : FnOk P w K mg base CX0 5 T.f_need_bits T.fd_need_bits ["word", "low", "many"] (sp_need_bits) := by
  have G_need_word := ok_need_word (P := P) (w := w) (base := base) T
  have G_is_between := ok_is_between (P := P) (w := w) (base := base) T
  refine T.F_need_bits.ok sc_need_bits (fun vs H Q E h => ?_) (fun cdv A outer s H vs Q E hr h => ?_)
  · obtain ⟨i, l, m, rfl, hi, hl, hm, hlm, k⟩ := h; rfl
  · obtain ⟨i, l, m, rfl, hi, hl, hm, hlm, k⟩ := h
    refine ⟨_, (pss_cons (ps_expr (pe_call G_need_word (hr.mono (by decide)) rfl T.g_need_word T.F_need_word.kp T.b_need_word .nil pass0 (pa_cons (pv 0) pa_nil)))
        (pss_cons (ps_if (pt_not (pt_val (pe_call G_is_between (hr.mono (by decide)) rfl T.g_is_between T.F_is_between.kp T.b_is_between .nil pass0 (pa_cons (pv 1) (pa_cons pe_int (pa_cons (pe_op op_sub (pe_gint rfl T.c__WORD_BITS) pe_int) pa_nil))))))
          (pss_one ps_never)
          pss_nil)
        (pss_one (ps_if (pt_not (pt_val (pe_call G_is_between (hr.mono (by decide)) rfl T.g_is_between T.F_is_between.kp T.b_is_between .nil pass0 (pa_cons (pv 2) (pa_cons pe_int (pa_cons (pe_op op_sub (pe_gint rfl T.c__WORD_BITS) (pv 1)) pa_nil))))))
          (pss_one ps_never)
          pss_nil)))), ?_⟩
    clear G_need_word G_is_between
    clear hr
    walk_at "rd"
    refine iteN (fun h => absurd h (fun z => z (by omega))) (fun _ => ?_)
    walk_at "rd"
    refine iteN (fun h => absurd h (fun z => z (by omega))) (fun _ => ?_)
    exact k
def sp_bits : Sp := fun vs H Q _ => ∃ (i : Int) (l m : Nat), vs = [.int i, .int (l : Int), .int (m : Int)] ∧ (0 ≤ i ∧ i < 65536) ∧ l ≤ 15 ∧ 1 ≤ m ∧ l + m ≤ 16 ∧ Q (.int (i / 2 ^ l % 2 ^ m)) H
theorem ok_bits (T : Txt K mg) : FnOk P w K mg base CX0 6 T.f_bits T.fd_bits ["word", "low", "many"] (sp_bits) := by
  have G_need_bits := ok_need_bits (P := P) (w := w) (base := base) T
  refine T.F_bits.ok sc_bits (fun vs H Q E h => ?_) (fun cdv A outer s H vs Q E hr h => ?_)
  · obtain ⟨i, l, m, rfl, hi, hl, hm, hlm, k⟩ := h; rfl
  · obtain ⟨i, l, m, rfl, hi, hl, hm, hlm, k⟩ := h
    refine ⟨_, (pss_cons (ps_expr (pe_call G_need_bits (hr.mono (by decide)) rfl T.g_need_bits T.F_need_bits.kp T.b_need_bits .nil pass0 (pa_cons (pv 0) (pa_cons (pv 1) (pa_cons (pv 2) pa_nil)))))
        (pss_one (ps_ret (pe_op op_mod (pe_op op_shr (pv 0) (pv 1)) (pe_op op_shl pe_int (pv 2)))))), ?_⟩
    clear G_need_bits
    clear hr
    have pm := pow16 (show m ≤ 16 by omega)
    walk_at "rd"
    · simp only [Int.one_mul, Int.toNat_natCast]; omega
    · exact qint k (by simp only [Int.one_mul, Int.toNat_natCast])
def sp_with_bits : Sp := fun vs H Q _ => ∃ (i : Int) (l m : Nat) (v : Int), vs = [.int i, .int (l : Int), .int (m : Int), .int v] ∧ (0 ≤ i ∧ i < 65536) ∧ l ≤ 15 ∧ 1 ≤ m ∧ l + m ≤ 16 ∧ (0 ≤ v ∧ v < 2 ^ m) ∧ Q (.int (i + (v - i / 2 ^ l % 2 ^ m) * 2 ^ l)) H
theorem ok_with_bits (T : Txt K mg) : FnOk P w K mg base CX0 7 T.f_with_bits T.fd_with_bits ["word", "low", "many", "value"] (sp_with_bits) := by
  have G_need_bits := ok_need_bits (P := P) (w := w) (base := base) T
  have G_is_between := ok_is_between (P := P) (w := w) (base := base) T
  have G_bits := ok_bits (P := P) (w := w) (base := base) T
  refine T.F_with_bits.ok sc_with_bits (fun vs H Q E h => ?_) (fun cdv A outer s H vs Q E hr h => ?_)
  · obtain ⟨i, l, m, v, rfl, hi, hl, hm, hlm, hv, k⟩ := h; rfl
  · obtain ⟨i, l, m, v, rfl, hi, hl, hm, hlm, hv, k⟩ := h
    refine ⟨_, (pss_cons (ps_expr (pe_call G_need_bits (hr.mono (by decide)) rfl T.g_need_bits T.F_need_bits.kp T.b_need_bits .nil pass0 (pa_cons (pv 0) (pa_cons (pv 1) (pa_cons (pv 2) pa_nil)))))
        (pss_cons (ps_if (pt_not (pt_val (pe_call G_is_between (hr.mono (by decide)) rfl T.g_is_between T.F_is_between.kp T.b_is_between .nil pass0 (pa_cons (pv 3) (pa_cons pe_int (pa_cons (pe_op op_sub (pe_op op_shl pe_int (pv 2)) pe_int) pa_nil))))))
          (pss_one ps_never)
          pss_nil)
        (pss_one (ps_ret (pe_op op_add (pv 0) (pe_op op_shl (pe_op op_sub (pv 3) (pe_call G_bits (hr.mono (by decide)) rfl T.g_bits T.F_bits.kp T.b_bits .nil pass0 (pa_cons (pv 0) (pa_cons (pv 1) (pa_cons (pv 2) pa_nil))))) (pv 1))))))), ?_⟩
    clear G_need_bits G_is_between G_bits
    clear hr
    have pm := pow16 (show m ≤ 16 by omega)
    walk_at "rd"
    refine iteN (fun h => absurd h (fun z => z (by simp only [Int.one_mul, Int.toNat_natCast]; omega))) (fun _ => ?_)
    have b0 := Int.emod_nonneg (i / 2 ^ l) (show (2 : Int) ^ m ≠ 0 by omega)
    have b1 := Int.emod_lt_of_pos (i / 2 ^ l) pm.1
    walk_at "rd"
end
end K11

set_option Elab.async false
set_option linter.all false
set_option maxRecDepth 100000
set_option maxHeartbeats 8000000

namespace K11
open PySem PySem.Spec PyProof.Rows L2 Hx K11M
local macro_rules | `(tactic| walk_at "sm") => `(tactic| repeat' (first | assumption | apply Hx.Same.upd | exact L2.Same.refl _ | apply same_trans'))
local macro_rules | `(tactic| walk_at "hp") => `(tactic| repeat' (first | assumption | exact upd_same | apply old_upd | apply same_at))
local macro_rules | `(tactic| walk_at "rd") => `(tactic| repeat' (first | rfl | apply Exists.intro | apply And.intro | refine iteT ?_ | refine iteF ?_ | exact upd_same | exact SqL.of (by assumption) | exact SqL.of upd_same | exact SqT.of upd_same | exact SqT.of (by assumption) | ((with_reducible show (_ : Int) < _); omega) | ((with_reducible show (_ : Int) ≤ _); omega) | (show (_ : Prop); assumption) | exact Or.inl ⟨_, by assumption, rfl⟩ | exact Or.inl ⟨rfl, _, SqL.of (by assumption)⟩ | exact Or.inl ⟨rfl, _, SqL.of upd_same⟩ | apply old_upd | apply Hx.SqL.new | apply tyl_new | apply Pot.new | exact same_at (by assumption) (by assumption) | exact Or.inl (SqL.of (by assumption)) | exact Or.inl (by assumption) | exact Or.inl (SqL.of upd_same) | exact size_le (Nat.le_of_ble_eq_true rfl) | exact Nat.le_of_ble_eq_true rfl | exact True.intro | exact Or.inl rfl | exact Or.inr rfl | (show (_ : Prop); omega) | (show (_ : Prop); dsimp only; omega) | exact mulw64 (by omega) (by omega) | exact mulw64 (by (try dsimp only); omega) (by (try dsimp only); omega)))

section
variable {P : Program} {w : World} {K : PySem.W.Frag} {mg : Str → Option Value} {base : Heap}
open K11M
def sp_Lpot (K : PySem.W.Frag) : Sp := fun vs H Q _ => ∃ (a : Addr) (ns : List Int), vs = [.ref a, .int 0] ∧ SqL K H a (ns.map V.int) ∧ ns.length ≤ 63 ∧ ∀ p (H' : Hp), H p = none → Same H H' → Pot H' p → Q (.ref p) H'
theorem ok_Lpot (T : Txt K mg) : FnOk P w K mg base CX0 1 T.f_Lpot T.fd_Lpot ["_law_script", "_law_k"] (sp_Lpot K) := by
  refine T.F_Lpot.ok sc_Lpot (fun vs H Q E h => ?_) (fun cdv A outer s H vs Q E hr h => ?_)
  · obtain ⟨a, ns, rfl, hS, hl, k⟩ := h; rfl
  · obtain ⟨a, ns, rfl, hS, hl, k⟩ := h
    refine ⟨_, (pss_cons (ps_set (i := 2) sc_Lpot.nd rfl (Or.inl rfl) (pe_op op_add (pe_op op_mulW pe_int (pv 1)) pe_int))
        (pss_cons (ps_if (pt_cmpR op_lt (pv 1) (pe_callB call_len_list (by rfl) T.m_len (by decide +kernel) (pa_cons (pv 0) pa_nil)) (nomark _))
          (pss_one (ps_set (i := 2) sc_Lpot.nd rfl (Or.inl rfl) (pe_callB call_abs (by rfl) T.m_abs (by decide +kernel) (pa_cons (pe_ix ix_list (pv 0) (pv 1) (fun _ _ => rfl)) pa_nil))))
          pss_nil)
        (pss_one (ps_ret (pe_lst (pa_cons (pe_callB (call_max2 rfl) (by rfl) T.m_max (by decide +kernel) (pa_cons pe_int (pa_cons (pe_op op_sub (pv 2) (pe_op op_pow pe_int pe_int)) pa_nil))) (pa_cons (pe_op op_add (pe_op op_mod (pe_callTy call_int1i (by rfl) T.m_int (by decide +kernel) (pa_cons (pe_op op_add (pe_op op_mulW (pe_op op_mod (pe_callTy call_int1i (by rfl) T.m_int (by decide +kernel) (pa_cons (pv 2) pa_nil)) pe_int) (pe_op op_add (pe_op op_mulW pe_int (pv 1)) pe_int)) pe_int) pa_nil)) pe_int) pe_int) pa_nil))))))), ?_⟩
    clear hr
    walk_at "rd"
    refine iteD (fun h => ?_) (fun h => ?_)
    · obtain ⟨v, hv, hm⟩ := pick_at (xs := ns.map V.int) (d := 0) (by omega) (by omega)
      obtain ⟨z, _, rfl⟩ := List.mem_map.mp hm
      walk_at "rd"
      intro p hp
      exact k p _ hp (same_upd hp) ⟨_, _, upd_same, by split <;> omega, by omega, by omega⟩
    · walk_at "rd"
      intro p hp
      exact k p _ hp (same_upd hp) ⟨_, _, upd_same, by split <;> omega, by omega, by omega⟩

theorem ok_Ldraw (T : Txt K mg) : FnOk P w K mg base CX0 1 T.f_Ldraw T.fd_Ldraw ["_law_pot_here", "_law_size"] (spDraw) := by
  refine T.F_Ldraw.ok sc_Ldraw (fun vs H Q E h => ?_) (fun cdv A outer s H vs Q E hr h => ?_)
  · obtain ⟨a, n, rfl, ⟨x, y, e, hx, hy, hy2⟩, hn, hn2, k⟩ := h; rfl
  · obtain ⟨a, n, rfl, ⟨x, y, e, hx, hy, hy2⟩, hn, hn2, k⟩ := h
    refine ⟨_, (pss_cons (ps_if (pt_cmpR op_gt (pe_ix ix_list (pv 0) pe_int (fun _ _ => rfl)) pe_int (nomark _))
          (pss_cons (ps_asg (pe_callB call_divmod (by rfl) T.m_divmod (by decide +kernel) (pa_cons (pe_ix ix_list (pv 0) pe_int (fun _ _ => rfl)) (pa_cons (pv 1) pa_nil))) (pg_tup rfl (pgs_cons (pg_sub (pv 0) pe_int set_list) (pgs_cons (pg_name (i := 2) sc_Ldraw.nd rfl (Or.inl rfl)) pgs_nil))))
          (pss_one (ps_ret (pv 2))))
          pss_nil)
        (pss_cons (ps_asg (pe_op op_mod (pe_callTy call_int1i (by rfl) T.m_int (by decide +kernel) (pa_cons (pe_op op_add (pe_op op_mulW (pe_ix ix_list (pv 0) pe_int (fun _ _ => rfl)) pe_int) pe_int) pa_nil)) pe_int) (pg_sub (pv 0) pe_int set_list))
        (pss_one (ps_ret (pe_op op_mod (pe_callTy call_int1i (by rfl) T.m_int (by decide +kernel) (pa_cons (pe_op op_fdiv (pe_op op_mod (pe_callTy call_int1i (by rfl) T.m_int (by decide +kernel) (pa_cons (pe_op op_mulW (pe_ix ix_list (pv 0) pe_int (fun _ _ => rfl)) (pe_ix ix_list (pv 0) pe_int (fun _ _ => rfl))) pa_nil)) pe_int) pe_int) pa_nil)) (pv 1)))))), ?_⟩
    clear hr
    walk_at "rd"
    refine iteD (fun h => ?_) (fun h => ?_)
    · walk_at "rd"
      intro p hp
      have ne : a ≠ p := fun z => by rw [← z, e] at hp; cases hp
      walk_at "rd"
      exact k (x % n) _ (Int.emod_nonneg _ (by omega)) (Int.emod_lt_of_pos _ hn) ⟨_, _, upd_same, Int.ediv_nonneg hx (by omega), hy, hy2⟩ (fun b o nb hb => by rw [upd_ne nb]; exact same_upd hp b o hb)
    · walk_at "rd"
      exact k _ _ (Int.emod_nonneg _ (by omega)) (Int.emod_lt_of_pos _ hn) ⟨_, _, upd_same, hx, by omega, by omega⟩ But.set
/-- called with the pot and a list apart: one of the list -/
def spPick : Sp := fun vs H Q _ => ∃ (a b : Addr) (xs : List V), vs = [.ref a, .ref b] ∧ Pot H a ∧ H b = some (.lst xs) ∧ b ≠ a ∧ 0 < xs.length ∧ xs.length < 1000 ∧ ∀ (v : V) (H' : Hp), v ∈ xs → Pot H' a → But a H H' → Q v H'
theorem ok_Lpick (T : Txt K mg) : FnOk P w K mg base CX0 2 T.f_Lpick T.fd_Lpick ["_law_pot_here", "_law_some"] (spPick) := by
  have G_Ldraw := ok_Ldraw (P := P) (w := w) (base := base) T
  refine T.F_Lpick.ok sc_Lpick (fun vs H Q E h => ?_) (fun cdv A outer s H vs Q E hr h => ?_)
  · obtain ⟨a, b, xs, rfl, hp, hb, ne, h0, hx, k⟩ := h; rfl
  · obtain ⟨a, b, xs, rfl, hp, hb, ne, h0, hx, k⟩ := h
    refine ⟨_, (pss_one (ps_ret (pe_ix ix_list (pv 1) (pe_call G_Ldraw (hr.mono (by decide)) rfl T.g_Ldraw T.F_Ldraw.kp T.b_Ldraw .nil pass0 (pa_cons (pv 0) (pa_cons (pe_callB call_len_list (by rfl) T.m_len (by decide +kernel) (pa_cons (pv 1) pa_nil)) pa_nil))) (fun _ _ => rfl)))), ?_⟩
    clear G_Ldraw
    clear hr
    walk_at "rd"
    intro d H' d0 d1 hp' bt
    obtain ⟨v, hv, hm⟩ := pick_at (xs := xs) d0 (by simpa using d1)
    have hb' := bt b _ ne hb
    walk_at "rd"
    exact k v H' hm hp' bt
def spWord : Sp := fun vs H Q _ => ∃ a : Addr, vs = [.ref a] ∧ Pot H a ∧ ∀ (i : Int) (H' : Hp), (0 ≤ i ∧ i < 65536) → Pot H' a → But a H H' → Q (.int i) H'
theorem ok_Lword (T : Txt K mg) : FnOk P w K mg base CX0 3 T.f_Lword T.fd_Lword ["_law_pot_here"] (spWord) := by
  have G_Ldraw := ok_Ldraw (P := P) (w := w) (base := base) T
  have G_Lpick := ok_Lpick (P := P) (w := w) (base := base) T
  refine T.F_Lword.ok sc_Lword (fun vs H Q E h => ?_) (fun cdv A outer s H vs Q E hr h => ?_)
  · obtain ⟨a, rfl, hp, k⟩ := h; rfl
  · obtain ⟨a, rfl, hp, k⟩ := h
    refine ⟨_, (pss_cons (ps_set (i := 1) sc_Lword.nd rfl (Or.inl rfl) (pe_call G_Ldraw (hr.mono (by decide)) rfl T.g_Ldraw T.F_Ldraw.kp T.b_Ldraw .nil pass0 (pa_cons (pv 0) (pa_cons pe_int pa_nil))))
        (pss_cons (ps_if (pt_cmpR op_eq (pv 1) pe_int (nomark _))
          (pss_one (ps_ret (pe_call G_Lpick (hr.mono (by decide)) rfl T.g_Lpick T.F_Lpick.kp T.b_Lpick .nil pass0 (pa_cons (pv 0) (pa_cons (pe_lst (pa_cons pe_int (pa_cons pe_int (pa_cons pe_int (pa_cons pe_int (pa_cons pe_int (pa_cons pe_int (pa_cons pe_int (pa_cons pe_int pa_nil))))))))) pa_nil)))))
          pss_nil)
        (pss_cons (ps_if (pt_cmpR op_eq (pv 1) pe_int (nomark _))
          (pss_one (ps_ret (pe_call G_Ldraw (hr.mono (by decide)) rfl T.g_Ldraw T.F_Ldraw.kp T.b_Ldraw .nil pass0 (pa_cons (pv 0) (pa_cons pe_int pa_nil)))))
          pss_nil)
        (pss_one (ps_ret (pe_call G_Ldraw (hr.mono (by decide)) rfl T.g_Ldraw T.F_Ldraw.kp T.b_Ldraw .nil pass0 (pa_cons (pv 0) (pa_cons pe_int pa_nil)))))))), ?_⟩
    clear G_Ldraw G_Lpick
    clear hr
    walk_at "rd"
    intro d H1 d0 d1 hp1 b1
    walk_at "rd"
    refine iteD (fun h => ?_) (fun h => ?_)
    · walk_at "rd"
      intro p hq
      have ne := hp1.ne hq
      walk_at "rd"
      intro v H2 hm hp2 b2
      have bb : But a H H2 := (b1.new hq).trans b2
      simp only [List.mem_cons, List.not_mem_nil, or_false] at hm
      rcases hm with rfl | rfl | rfl | rfl | rfl | rfl | rfl | rfl <;> exact k _ H2 (by decide) hp2 bb
    · walk_at "rd"
      refine iteD (fun h => ?_) (fun h => ?_)
      · walk_at "rd"
        intro d2 H2 e0 e1 hp2 b2
        exact k d2 H2 (by omega) hp2 (b1.trans b2)
      · walk_at "rd"
        intro d2 H2 e0 e1 hp2 b2
        exact k d2 H2 (by omega) hp2 (b1.trans b2)
def spList : Sp := fun vs H Q _ => ∃ i : Int, vs = [.int i] ∧ ∀ p, H p = none → Q (.ref p) (upd H p (.lst ((bs 16 i).map V.int)))
theorem ok_Llist (T : Txt K mg) : FnOk P w K mg base CX0 1 T.f_Llist T.fd_Llist ["_law_word_here"] (spList) := by
  refine T.F_Llist.ok sc_Llist (fun vs H Q E h => ?_) (fun cdv A outer s H vs Q E hr h => ?_)
  · obtain ⟨i, rfl, k⟩ := h; rfl
  · obtain ⟨i, rfl, k⟩ := h
    refine ⟨_, (pss_cons (ps_set (i := 1) sc_Llist.nd rfl (Or.inl rfl) (pe_lst pa_nil))
        (pss_cons (ps_forS PassesOwn.never rfl (pi_range1 rfl T.m_range (pa_cons pe_int pa_nil)) (pg_name (i := 2) sc_Llist.nd rfl (Or.inl rfl))
          (pss_cons (ps_expr (pe_bm PySem.F.plainAttrs_list PySem.F.slot_list_append PySem.F.type_list_append mt_append (pv 1) (pa_cons (pe_op op_mod (pv 0) pe_int) pa_nil)))
          (pss_one (ps_set (i := 0) sc_Llist.nd rfl (Or.inl rfl) (pe_op op_fdiv (pv 0) pe_int)))))
        (pss_one (ps_ret (pv 1))))), ?_⟩
    clear hr
    walk_at "rd"
    intro p hp
    walk_at "rd"
    refine ⟨for_range (n := 16) (fun n σ H' => Stop (∃ t, σ = [some (.int (i / 2 ^ n)), some (.ref p), t] ∧ H' = upd H p (.lst ((bs n i).map V.int)))) ⟨⟨none, ?_, rfl⟩⟩ (fun n σ H' hn h => ?_) (fun σ H' h => ?_)⟩
    · show [some (V.int i), some (V.ref p), none] = _
      rw [Int.pow_zero, Int.ediv_one]
    · obtain ⟨t, rfl, rfl⟩ := h.h
      walk_at "rd"
      · exact size_lt (by simp [bs_len]; omega)
      walk_at "rd"
      exact ⟨⟨some (.int (0 + (n : Int))), by rw [ediv_pow_succ]; rfl, by rw [upd_upd, bs_succ, List.map_append]; rfl⟩⟩
    · obtain ⟨t, rfl, rfl⟩ := h.h
      walk_at "rd"
      exact k p hp
def spOf : Sp := fun vs H Q _ => ∃ (b : Addr) (ns : List Int), vs = [.ref b] ∧ H b = some (.lst (ns.map V.int)) ∧ Bits ns ∧ ns.length ≤ 16 ∧ ∀ H' : Hp, Same H H' → Q (.int (val ns)) H'
theorem acc_lt {ns : List Int} (h : Bits ns) (hl : ns.length ≤ 16) (i : Nat) : 0 ≤ (ns.reverse.take i).foldl (fun acc b => acc * 2 + b) 0 ∧ (ns.reverse.take i).foldl (fun acc b => acc * 2 + b) 0 < 65536 := by
  have e := fold_val (ns.reverse.take i).reverse
  rw [List.reverse_reverse] at e
  rw [e]
  have hb : Bits (ns.reverse.take i).reverse := fun x hx => h x (List.mem_reverse.mp (List.mem_of_mem_take (List.mem_reverse.mp hx)))
  have v := val_lt hb
  have p := pow16 (m := (ns.reverse.take i).reverse.length) (by simp; omega)
  omega
theorem ok_Lof (T : Txt K mg) : FnOk P w K mg base CX0 1 T.f_Lof T.fd_Lof ["_law_row"] (spOf) := by
  refine T.F_Lof.ok sc_Lof (fun vs H Q E h => ?_) (fun cdv A outer s H vs Q E hr h => ?_)
  · obtain ⟨b, ns, rfl, hb, hbit, hlen, k⟩ := h; rfl
  · obtain ⟨b, ns, rfl, hb, hbit, hlen, k⟩ := h
    refine ⟨_, (pss_cons (ps_set (i := 1) sc_Lof.nd rfl (Or.inl rfl) pe_int)
        (pss_cons (ps_forS PassesOwn.never rfl (pi_list (pe_revL (pv 0))) (pg_name (i := 2) sc_Lof.nd rfl (Or.inl rfl))
          (pss_one (ps_set (i := 1) sc_Lof.nd rfl (Or.inl rfl) (pe_op op_add (pe_op op_mulW (pv 1) pe_int) (pv 2)))))
        (pss_one (ps_ret (pv 1))))), ?_⟩
    clear hr
    walk_at "rd"
    intro p hp
    walk_at "rd"
    refine ⟨for_list (xs := (ns.map V.int).reverse) (fun n σ H' => Stop (∃ t, σ = [some (.ref b), some (.int ((ns.reverse.take n).foldl (fun acc b => acc * 2 + b) 0)), t] ∧ H' = upd H p (.lst (ns.map V.int).reverse))) ⟨⟨none, rfl, rfl⟩⟩ (fun n σ H' hn h => ?_) (fun n x σ H' hx h => ?_) (fun σ H' h => ?_)⟩
    · obtain ⟨t, rfl, rfl⟩ := h.h
      exact SqL.of upd_same
    · obtain ⟨t, rfl, rfl⟩ := h.h
      rw [← List.map_reverse] at hx
      obtain ⟨z, rfl, hz⟩ := int_get hx
      have ha := acc_lt hbit hlen n
      walk_at "rd"
      exact ⟨⟨_, by rw [take_fold hz]; rfl, rfl⟩⟩
    · obtain ⟨t, rfl, rfl⟩ := h.h
      walk_at "rd"
      exact qint (k _ (same_upd hp)) (by rw [List.take_of_length_le (by simp), fold_val])
def spAdded : Sp := fun vs H Q _ => ∃ (a b : Addr) (xs ys : List Int) (c : Int), vs = [.ref a, .ref b, .int c] ∧ H a = some (.lst (xs.map V.int)) ∧ H b = some (.lst (ys.map V.int)) ∧ xs.length = 16 ∧ ys.length = 16 ∧ Bits xs ∧ Bits ys ∧ (c = 0 ∨ c = 1) ∧
  ∀ (p : Addr) (zs : List Int) (H' : Hp), H p = none → Same H H' → H' p = some (.lst (zs.map V.int)) → Bits zs → zs.length = 16 → val zs = (val xs + val ys + c) % 65536 → Q (.ref p) H'
theorem ok_Ladded (T : Txt K mg) : FnOk P w K mg base CX0 1 T.f_Ladded T.fd_Ladded ["_law_one", "_law_other", "_law_carry"] (spAdded) := by
  refine T.F_Ladded.ok sc_Ladded (fun vs H Q E h => ?_) (fun cdv A outer s H vs Q E hr h => ?_)
  · obtain ⟨a, b, xs, ys, c, rfl, ha, hb, lx, ly, bx, by', hc, k⟩ := h; rfl
  · obtain ⟨a, b, xs, ys, c, rfl, ha, hb, lx, ly, bx, by', hc, k⟩ := h
    refine ⟨_, (pss_cons (ps_set (i := 3) sc_Ladded.nd rfl (Or.inl rfl) (pe_lst pa_nil))
        (pss_cons (ps_forS PassesOwn.never rfl (pi_zip rfl T.m_zip (pa_cons (pv 0) (pa_cons (pv 1) pa_nil))) (pg_tup rfl (pgs_cons (pg_name (i := 4) sc_Ladded.nd rfl (Or.inl rfl)) (pgs_cons (pg_name (i := 5) sc_Ladded.nd rfl (Or.inl rfl)) pgs_nil)))
          (pss_cons (ps_set (i := 6) sc_Ladded.nd rfl (Or.inl rfl) (pe_op op_add (pe_op op_add (pv 4) (pv 5)) (pv 2)))
          (pss_cons (ps_expr (pe_bm PySem.F.plainAttrs_list PySem.F.slot_list_append PySem.F.type_list_append mt_append (pv 3) (pa_cons (pe_op op_mod (pv 6) pe_int) pa_nil)))
          (pss_one (ps_set (i := 2) sc_Ladded.nd rfl (Or.inl rfl) (pe_op op_fdiv (pv 6) pe_int))))))
        (pss_one (ps_ret (pv 3))))), ?_⟩
    clear hr
    walk_at "rd"
    intro p hp
    walk_at "rd"
    refine ⟨RZ.for_zipL (xs := xs.map V.int) (ys := ys.map V.int) (by simp [lx, ly]) (fun n σ H' => Stop (∃ (t1 t2 t3 : Option V) (cc : Int) (acc : List Int), σ = [some (.ref a), some (.ref b), some (.int cc), some (.ref p), t1, t2, t3] ∧ Same H H' ∧ H' p = some (.lst (acc.map V.int)) ∧ acc.length = n ∧ (cc = 0 ∨ cc = 1) ∧ acc ++ add (xs.drop n) (ys.drop n) cc = add xs ys c)) ⟨⟨none, none, none, c, [], rfl, same_upd hp, upd_same, rfl, hc, rfl⟩⟩ (fun n σ H' h => ?_) (fun n x y T σ H' hx hy h hT => ?_) (fun σ H' h => ?_)⟩
    · obtain ⟨t1, t2, t3, cc, acc, rfl, s, e, _⟩ := h.h
      exact ⟨SqL.of (s _ _ ha), SqL.of (s _ _ hb)⟩
    · obtain ⟨t1, t2, t3, cc, acc, rfl, s, e, hn, hcc, ht⟩ := h.h
      obtain ⟨z, rfl, hz⟩ := int_get hx
      obtain ⟨z', rfl, hz'⟩ := int_get hy
      have b1 := bx z (List.mem_of_getElem? hz)
      have b2 := by' z' (List.mem_of_getElem? hz')
      have ln : n < 16 := by have := (List.getElem?_eq_some_iff.mp hz).1; omega
      walk_at "rd"
      · exact size_lt (by simp; omega)
      walk_at "rd"
      refine ⟨⟨_, _, _, (z + z' + cc) / 2, acc ++ [(z + z' + cc) % 2], rfl, same_set (Hx.Same.upd s hT) hp, ?_, by simp [hn], by omega, ?_⟩⟩
      · rw [upd_same, List.map_append]; rfl
      · rw [← ht, List.append_assoc]
        congr 1
        have e1 : xs.drop n = z :: xs.drop (n + 1) := by
          rw [List.drop_eq_getElem_cons (by omega)]; congr 1; exact (List.getElem?_eq_some_iff.mp hz).2
        have e2 : ys.drop n = z' :: ys.drop (n + 1) := by
          rw [List.drop_eq_getElem_cons (by omega)]; congr 1; exact (List.getElem?_eq_some_iff.mp hz').2
        rw [e1, e2]; rfl
    · obtain ⟨t1, t2, t3, cc, acc, rfl, s, e, hn, hcc, ht⟩ := h.h
      walk_at "rd"
      rw [List.drop_of_length_le (by simp)] at ht
      have ht' : acc = add xs ys c := by rw [← ht]; simp [add]
      subst ht'
      exact k p _ H' hp s e (add_bits _ _ _) (by rw [add_len (by omega)]; exact lx) (by rw [add_val (by omega) bx by' hc, lx]; rfl)
def spTimes : Sp := fun vs H Q _ => ∃ (a b : Addr) (xs ys : List Int), vs = [.ref a, .ref b] ∧ H a = some (.lst (xs.map V.int)) ∧ H b = some (.lst (ys.map V.int)) ∧ xs.length = 16 ∧ ys.length = 16 ∧ Bits xs ∧ Bits ys ∧
  ∀ (p : Addr) (zs : List Int) (H' : Hp), H p = none → Same H H' → H' p = some (.lst (zs.map V.int)) → Bits zs → zs.length = 16 → val zs = val xs * val ys % 65536 → Q (.ref p) H'
theorem rep_ints (n : Nat) : (List.replicate n [V.int 0]).flatten = (List.replicate n (0 : Int)).map V.int := by
  induction n with
  | zero => rfl
  | succ n ih => rw [List.replicate_succ, List.flatten_cons, ih]; rfl
theorem cut_ints (ns : List Int) (lo hi : Option Int) : cutV (ns.map V.int) lo hi = ((ns.drop (HT.sIx ns.length 0 lo)).take (HT.sIx ns.length ns.length hi - HT.sIx ns.length 0 lo)).map V.int := by
  unfold cutV
  simp [List.map_take, List.map_drop]
theorem cut_to (ns : List Int) (k : Nat) : cutV (ns.map V.int) none (some (k : Int)) = (ns.take k).map V.int := by
  rw [cut_ints, HT.sIx_none, HT.sIx_nat]
  simp only [List.drop_zero, Nat.sub_zero]
  by_cases h : k ≤ ns.length
  · rw [Nat.min_eq_left h]
  · rw [List.take_of_length_le (by omega), List.take_of_length_le (by omega)]
theorem cut_from (ns : List Int) (k : Nat) : cutV (ns.map V.int) (some (k : Int)) none = (ns.drop k).map V.int := by
  rw [cut_ints, HT.sIx_none, HT.sIx_nat]
  by_cases h : k ≤ ns.length
  · rw [Nat.min_eq_left h, List.take_of_length_le (by simp)]
  · rw [List.drop_of_length_le (by omega), List.drop_of_length_le (by omega)]; simp
theorem cut_mid (ns : List Int) (k m : Nat) (h : k + m ≤ ns.length) : cutV (ns.map V.int) (some (k : Int)) (some ((k : Int) + (m : Int))) = ((ns.drop k).take m).map V.int := by
  rw [cut_ints, HT.sIx_nat, show (k : Int) + (m : Int) = ((k + m : Nat) : Int) by omega, HT.sIx_nat, Nat.min_eq_left (by omega), Nat.min_eq_left (by omega), Nat.add_sub_cancel_left]
theorem ok_Ltimes (T : Txt K mg) : FnOk P w K mg base CX0 2 T.f_Ltimes T.fd_Ltimes ["_law_one", "_law_other"] (spTimes) := by
  have G_Ladded := ok_Ladded (P := P) (w := w) (base := base) T
  refine T.F_Ltimes.ok sc_Ltimes (fun vs H Q E h => ?_) (fun cdv A outer s H vs Q E hr h => ?_)
  · obtain ⟨a, b, xs, ys, rfl, ha, hb, lx, ly, bx, by', k⟩ := h; rfl
  · obtain ⟨a, b, xs, ys, rfl, ha, hb, lx, ly, bx, by', k⟩ := h
    refine ⟨_, (pss_cons (ps_set (i := 2) sc_Ltimes.nd rfl (Or.inl rfl) (pe_op op_rep (pe_lst (pa_cons pe_int pa_nil)) pe_int))
        (pss_cons (ps_forS PassesOwn.never rfl (pi_enum rfl T.m_enumerate (pa_cons (pv 1) pa_nil)) (pg_tup rfl (pgs_cons (pg_name (i := 3) sc_Ltimes.nd rfl (Or.inl rfl)) (pgs_cons (pg_name (i := 4) sc_Ltimes.nd rfl (Or.inl rfl)) pgs_nil)))
          (pss_one (ps_if (pt_cmpR op_eq (pv 4) pe_int (nomark _))
            (pss_one (ps_set (i := 2) sc_Ltimes.nd rfl (Or.inl rfl) (pe_call G_Ladded (hr.mono (by decide)) rfl T.g_Ladded T.F_Ladded.kp T.b_Ladded .nil pass0 (pa_cons (pv 2) (pa_cons (pe_slice sl_list (pe_op op_cat (pe_op op_rep (pe_lst (pa_cons pe_int pa_nil)) (pv 3)) (pv 0)) po_none (po_some pe_int)) (pa_cons pe_int pa_nil))))))
            pss_nil)))
        (pss_one (ps_ret (pv 2))))), ?_⟩
    clear G_Ladded
    clear hr
    walk_at "rd"
    intro q0 hq0
    walk_at "rd"
    intro q hq
    have hqH : H q = none := L2.Same.free (same_upd (o := .lst [.int 0]) hq0) hq
    walk_at "rd"
    refine ⟨for_it (walk_enum (xs := ys.map V.int)) (fun n σ H' => Stop (∃ (t1 t2 : Option V) (q : Addr) (fs : List Int), σ = [some (.ref a), some (.ref b), some (.ref q), t1, t2] ∧ Same H H' ∧ H q = none ∧ H' q = some (.lst (fs.map V.int)) ∧ Bits fs ∧ fs.length = 16 ∧ val fs = val xs * val (ys.take n) % 65536)) ⟨⟨none, none, q, List.replicate 16 0, rfl, Hx.Same.upd (same_upd hq0) hq, hqH, by rw [upd_same]; exact congrArg (fun l => some (HO.lst l)) (rep_ints 16), Bits.rep 16, by simp, by simp [val_rep, val]⟩⟩ (fun n σ H' hn h => ?_) (fun n x σ H1 H' hn h y => ?_) (fun σ H' h => ?_)⟩
    · obtain ⟨t1, t2, q, fs, rfl, s, _⟩ := h.h
      exact SqL.of (s _ _ hb)
    · obtain ⟨t1, t2, q, fs, rfl, s, hq, hf, bf, lf, vf⟩ := h.h
      obtain ⟨T, x0, y0, rfl, hT, rfl, hx, hy⟩ := y
      obtain rfl := Option.some.inj hx
      obtain ⟨z, rfl, hz⟩ := int_get hy
      have b1 := by' z (List.mem_of_getElem? hz)
      have ln : n < 16 := by have := (List.getElem?_eq_some_iff.mp hz).1; omega
      have tk : val (ys.take (n + 1)) = val (ys.take n) + z * 2 ^ n := by
        rw [List.take_add_one, hz, Option.toList_some, val_app]
        have e : (ys.take n).length = n := by simp; omega
        rw [e]; simp [val]
      have ha1 : H1 a = some (.lst (xs.map V.int)) := s _ _ ha
      walk_at "rd"
      refine iteD (fun h1 => ?_) (fun h1 => ?_)
      · obtain rfl := V.int.inj h1
        walk_at "rd"
        intro p1 n1
        walk_at "rd"
        · simp; exact size_le (by omega)
        intro p2 n2
        walk_at "rd"
        · simp; exact size_le (by omega)
        intro p3 n3
        walk_at "rd"
        intro p4 n4
        have hcut : cutV ((List.replicate (n : Int).toNat [V.int 0]).flatten ++ xs.map V.int) none (some 16) = (((List.replicate n 0 ++ xs).take 16)).map V.int := by
          rw [Int.toNat_natCast, rep_ints, ← List.map_append]; exact cut_to _ 16
        rw [hcut]
        walk_at "rd"
        · simp; omega
        · exact ((Bits.rep n).app bx).take 16
        intro p5 zs H5 n5 s5 e5 b5 l5 v5
        have s6 : Same H H5 := by
          refine L2.Same.trans ?_ s5
          walk_at "sm"
        have n6 : H p5 = none := by
          refine L2.Same.free (H' := _) ?_ n5
          walk_at "sm"
        exact ⟨⟨_, _, p5, zs, rfl, s6, n6, e5, b5, l5, by rw [v5, tk, Int.one_mul]; exact times_step (z := 0) vf (val_up bx lx (by omega))⟩⟩
      · obtain rfl : z = 0 := by rcases b1 with h | h; exact h; exact absurd (congrArg V.int h) h1
        walk_at "rd"
        exact ⟨⟨_, _, q, fs, rfl, Hx.Same.upd s hT, hq, old_upd hT hf, bf, lf, by rw [tk, vf]; simp⟩⟩
    · obtain ⟨t1, t2, q, fs, rfl, s, hq, hf, bf, lf, vf⟩ := h.h
      walk_at "rd"
      exact k q fs H' hq s hf bf lf (by rw [vf, List.take_of_length_le (by simp)])
end
end K11

set_option Elab.async false
set_option linter.all false
set_option maxRecDepth 100000
set_option maxHeartbeats 8000000

namespace K11
open PySem PySem.Spec PyProof.Rows L2 Hx K11M
local macro_rules | `(tactic| walk_at "sm") => `(tactic| repeat' (first | assumption | apply Hx.Same.upd | exact L2.Same.refl _ | apply same_trans'))
local macro_rules | `(tactic| walk_at "hp") => `(tactic| repeat' (first | assumption | exact upd_same | apply old_upd | apply same_at))
local macro_rules | `(tactic| walk_at "rd") => `(tactic| repeat' (first | rfl | apply Exists.intro | apply And.intro | refine iteT ?_ | refine iteF ?_ | exact upd_same | exact SqL.of (by assumption) | exact SqL.of upd_same | exact SqT.of upd_same | exact SqT.of (by assumption) | ((with_reducible show (_ : Int) < _); omega) | ((with_reducible show (_ : Int) ≤ _); omega) | (show (_ : Prop); assumption) | exact Or.inl ⟨_, by assumption, rfl⟩ | exact Or.inl ⟨rfl, _, SqL.of (by assumption)⟩ | exact Or.inl ⟨rfl, _, SqL.of upd_same⟩ | apply old_upd | apply Hx.SqL.new | apply tyl_new | apply Pot.new | exact same_at (by assumption) (by assumption) | exact Or.inl (SqL.of (by assumption)) | exact Or.inl (by assumption) | exact Or.inl (SqL.of upd_same) | exact size_le (Nat.le_of_ble_eq_true rfl) | exact Nat.le_of_ble_eq_true rfl | exact True.intro | exact Or.inl rfl | exact Or.inr rfl | (show (_ : Prop); omega) | (show (_ : Prop); dsimp only; omega) | exact mulw64 (by omega) (by omega) | exact mulw64 (by (try dsimp only); omega) (by (try dsimp only); omega)))

section
variable {P : Program} {w : World} {K : PySem.W.Frag} {mg : Str → Option Value} {base : Heap}
def spRight2 : Sp := fun vs H Q _ => ∃ x y : Int, vs = [.int x, .int y] ∧ (0 ≤ x ∧ x < 65536) ∧ (0 ≤ y ∧ y < 65536) ∧ ∀ H' : Hp, Same H H' → Q (.bl true) H'
theorem ok_Lshifts_right (T : Txt K mg) : FnOk P w K mg base CX0 7 T.f_Lshifts_right T.fd_Lshifts_right ["_law_word_here", "_law_many"] (spRight2) := by
  have G_Llist := ok_Llist (P := P) (w := w) (base := base) T
  have G_shifted_down := ok_shifted_down (P := P) (w := w) (base := base) T
  have G_shifted_up := ok_shifted_up (P := P) (w := w) (base := base) T
  have G_Lof := ok_Lof (P := P) (w := w) (base := base) T
  have G_signed := ok_signed (P := P) (w := w) (base := base) T
  refine T.F_Lshifts_right.ok sc_Lshifts_right (fun vs H Q E h => ?_) (fun cdv A outer s H vs Q E hr h => ?_)
  · obtain ⟨x, j, rfl, hx, hj, k⟩ := h; rfl
  · obtain ⟨x, j, rfl, hx, hj, k⟩ := h
    refine ⟨_, (pss_cons (ps_set (i := 2) sc_Lshifts_right.nd rfl (Or.inl rfl) (pe_call G_Llist (hr.mono (by decide)) rfl T.g_Llist T.F_Llist.kp T.b_Llist .nil pass0 (pa_cons (pv 0) pa_nil)))
        (pss_cons (ps_set (i := 3) sc_Lshifts_right.nd rfl (Or.inl rfl) (pe_callB (call_min2 rfl) (by rfl) T.m_min (by decide +kernel) (pa_cons (pv 1) (pa_cons pe_int pa_nil))))
        (pss_cons (ps_par (i := 4) (j := 5) rfl sc_Lshifts_right.nd rfl rfl (by decide) rfl rfl (pa_cons (pe_slice sl_list (pe_op op_cat (pe_op op_rep (pe_lst (pa_cons pe_int pa_nil)) (pv 3)) (pv 2)) po_none (po_some pe_int)) (pa_cons (pe_op op_cat (pe_slice sl_list (pv 2) (po_some (pv 3)) po_none) (pe_op op_rep (pe_lst (pa_cons pe_int pa_nil)) (pv 3))) pa_nil)) (by rfl))
        (pss_cons (ps_if (pt_cmpR (op_neLI hr.units) (pe_lst (pa_cons (pe_call G_shifted_up (hr.mono (by decide)) rfl T.g_shifted_up T.F_shifted_up.kp T.b_shifted_up .nil pass0 (pa_cons (pv 0) (pa_cons (pv 1) pa_nil))) (pa_cons (pe_callKA G_shifted_down (hr.mono (by decide)) rfl T.g_shifted_down T.F_shifted_down.kp T.kb_shifted_down pass0 (pk_cons (pv 0) (pk_cons (pv 1) pk_nil))) pa_nil))) (pe_lst (pa_cons (pe_call G_Lof (hr.mono (by decide)) rfl T.g_Lof T.F_Lof.kp T.b_Lof .nil pass0 (pa_cons (pv 4) pa_nil)) (pa_cons (pe_call G_Lof (hr.mono (by decide)) rfl T.g_Lof T.F_Lof.kp T.b_Lof .nil pass0 (pa_cons (pv 5) pa_nil)) pa_nil))) (nomark _))
          (pss_one (ps_ret pe_bl))
          pss_nil)
        (pss_one (ps_ret (pe_cmpR op_eq (pe_call G_signed (hr.mono (by decide)) rfl T.g_signed T.F_signed.kp T.b_signed .nil pass0 (pa_cons (pv 0) pa_nil)) (pe_op op_sub (pe_call G_Lof (hr.mono (by decide)) rfl T.g_Lof T.F_Lof.kp T.b_Lof .nil pass0 (pa_cons (pe_slice sl_list (pv 2) po_none (po_some pe_int)) pa_nil)) (pe_op op_mulW pe_int (pe_ix ix_list (pv 2) pe_int (fun _ _ => rfl)))) (nomark _)))))))), ?_⟩
    clear G_Llist G_shifted_down G_shifted_up G_Lof G_signed
    clear hr
    have bx := bs_bits 16 x
    have lx := bs_len 16 x
    obtain ⟨n, hn, hn16⟩ : ∃ n : Nat, (if (16 : Int) < j then 16 else j) = (n : Int) ∧ n ≤ 16 := ⟨(if (16 : Int) < j then 16 else j).toNat, by split <;> omega, by split <;> omega⟩
    have hup : val ((List.replicate n 0 ++ bs 16 x).take 16) = if 16 ≤ j then 0 else x * 2 ^ j.toNat % 65536 := by
      rw [val_up bx lx hn16, val16 hx]
      by_cases h : 16 ≤ j
      · rw [if_pos h]
        have e : n = 16 := by split at hn <;> omega
        rw [e]; omega
      · rw [if_neg h]
        have e : j.toNat = n := by split at hn <;> omega
        rw [e]
    have hdn : val ((bs 16 x).drop n ++ List.replicate n 0) = x / 2 ^ j.toNat := by
      rw [val_app, val_rep, Int.zero_mul, Int.add_zero, drop_bs n 16 x hn16, val_bs]
      have c0 : 0 ≤ x / 2 ^ n := Int.ediv_nonneg hx.1 (Int.le_of_lt (K11M.pow_pos _))
      have c1 : x / 2 ^ n < 2 ^ (16 - n) := by
        apply Int.ediv_lt_of_lt_mul (K11M.pow_pos _)
        rw [← Int.pow_add, show 16 - n + n = 16 by omega]
        exact hx.2
      rw [Int.emod_eq_of_lt c0 c1]
      by_cases h : 16 < j
      · have e : n = 16 := by split at hn <;> omega
        have p : (65536 : Int) ≤ 2 ^ j.toNat := by
          have e2 : j.toNat = 16 + (j.toNat - 16) := by omega
          rw [e2, Int.pow_add]
          have := K11M.pow_pos (j.toNat - 16)
          omega
        have e1 : x / 2 ^ j.toNat = 0 := Int.ediv_eq_zero_of_lt hx.1 (by omega)
        have e2 : x / 2 ^ n = 0 := by rw [e]; omega
        rw [e1, e2]
      · have e : j.toNat = n := by split at hn <;> omega
        rw [e]
    walk_at "rd"
    intro p1 n1
    walk_at "rd"
    intro p2 n2
    rw [hn]
    walk_at "rd"
    · simp; exact size_le (by omega)
    intro p3 n3
    walk_at "rd"
    · simp [bs_len]; exact size_le (by omega)
    intro p4 n4
    walk_at "rd"
    intro p5 n5
    have hcut : cutV ((List.replicate (n : Int).toNat [V.int 0]).flatten ++ (bs 16 x).map V.int) none (some 16) = (((List.replicate n 0 ++ bs 16 x).take 16)).map V.int := by
      rw [Int.toNat_natCast, rep_ints, ← List.map_append]; exact cut_to _ 16
    rw [hcut]
    walk_at "rd"
    intro p6 n6
    rw [cut_from]
    walk_at "rd"
    intro p7 n7
    walk_at "rd"
    · simp; exact size_le (by omega)
    intro p8 n8
    walk_at "rd"
    · simp [bs_len]; exact size_le (by omega)
    intro p9 n9
    have hcat : (((bs 16 x).drop n).map V.int ++ (List.replicate (n : Int).toNat [V.int 0]).flatten) = (((bs 16 x).drop n ++ List.replicate n 0)).map V.int := by
      rw [Int.toNat_natCast, rep_ints, ← List.map_append]
    rw [hcat]
    walk_at "rd"
    intro p10 n10
    walk_at "rd"
    · exact ((Bits.rep n).app bx).take 16
    · simp; omega
    intro Ha sa
    rw [hup]
    have f9 : Ha p9 = some (.lst ((((bs 16 x).drop n ++ List.replicate n 0)).map V.int)) := sa _ _ (old_upd n10 upd_same)
    have f10 : Ha p10 = some (.lst (([if 16 ≤ j then 0 else x * 2 ^ j.toNat % 65536, x / 2 ^ j.toNat] : List Int).map V.int)) := sa _ _ upd_same
    have f1 : Ha p1 = some (.lst ((bs 16 x).map V.int)) := by
      refine sa _ _ ?_
      walk_at "hp"
    have sH : Same H Ha := by
      refine L2.Same.trans ?_ sa
      walk_at "sm"
    walk_at "rd"
    · exact (bx.drop n).app (Bits.rep n)
    · simp [bs_len]; omega
    intro Hb sb
    rw [hdn]
    have f10 : Hb p10 = _ := sb _ _ f10
    have f1 : Hb p1 = _ := sb _ _ f1
    walk_at "rd"
    intro p11 n11
    have f11 : upd Hb p11 (.lst [V.int (if 16 ≤ j then 0 else x * 2 ^ j.toNat % 65536), V.int (x / 2 ^ j.toNat)]) p11 = some (.lst (([if 16 ≤ j then 0 else x * 2 ^ j.toNat % 65536, x / 2 ^ j.toNat] : List Int).map V.int)) := upd_same
    have f10' := old_upd (o := .lst [V.int (if 16 ≤ j then 0 else x * 2 ^ j.toNat % 65536), V.int (x / 2 ^ j.toNat)]) n11 f10
    have s10 := SqL.of (K := K) f10'
    have s11 := SqL.of (K := K) f11
    walk_at "rd"
    intro p12 n12
    have hc : cutV ((bs 16 x).map V.int) none (some 15) = ((bs 16 x).take 15).map V.int := cut_to _ 15
    rw [hc]
    walk_at "rd"
    · exact bx.take 15
    intro Hc sc
    have f1 : Hc p1 = some (.lst ((bs 16 x).map V.int)) := by
      refine sc _ _ ?_
      walk_at "hp"
    walk_at "rd"
    refine qbl (k Hc ?_) (decide_eq_true (congrArg V.int ?_))
    · refine L2.Same.trans ?_ sc
      walk_at "sm"
    · rw [take_bs 15 16 x (by omega), val_bs]
      show (if 32768 ≤ x then x - 65536 else x) = x % 2 ^ 15 - 32768 * (x / 2 ^ 15 % 2)
      split <;> omega
end
end K11

set_option Elab.async false
set_option linter.all false
set_option maxRecDepth 100000
set_option maxHeartbeats 8000000

namespace K11
open PySem PySem.Spec PyProof.Rows L2 Hx K11M
local macro_rules | `(tactic| walk_at "sm") => `(tactic| repeat' (first | assumption | apply Hx.Same.upd | exact L2.Same.refl _ | apply same_trans'))
local macro_rules | `(tactic| walk_at "hp") => `(tactic| repeat' (first | assumption | exact upd_same | apply old_upd | apply same_at))
local macro_rules | `(tactic| walk_at "rd") => `(tactic| repeat' (first | rfl | apply Exists.intro | apply And.intro | refine iteT ?_ | refine iteF ?_ | exact upd_same | exact SqL.of (by assumption) | exact SqL.of upd_same | exact SqT.of upd_same | exact SqT.of (by assumption) | ((with_reducible show (_ : Int) < _); omega) | ((with_reducible show (_ : Int) ≤ _); omega) | (show (_ : Prop); assumption) | exact Or.inl ⟨_, by assumption, rfl⟩ | exact Or.inl ⟨rfl, _, SqL.of (by assumption)⟩ | exact Or.inl ⟨rfl, _, SqL.of upd_same⟩ | apply old_upd | apply Hx.SqL.new | apply tyl_new | apply Pot.new | exact same_at (by assumption) (by assumption) | exact Or.inl (SqL.of (by assumption)) | exact Or.inl (by assumption) | exact Or.inl (SqL.of upd_same) | exact size_le (Nat.le_of_ble_eq_true rfl) | exact Nat.le_of_ble_eq_true rfl | exact True.intro | exact Or.inl rfl | exact Or.inr rfl | (show (_ : Prop); omega) | (show (_ : Prop); dsimp only; omega) | exact mulw64 (by omega) (by omega) | exact mulw64 (by (try dsimp only); omega) (by (try dsimp only); omega)))

section
variable {P : Program} {w : World} {K : PySem.W.Frag} {mg : Str → Option Value} {base : Heap}
def spBits : Sp := fun vs H Q _ => ∃ x l m v : Int, vs = [.int x, .int l, .int m, .int v] ∧ (0 ≤ x ∧ x < 65536) ∧ 0 ≤ l ∧ l ≤ 15 ∧ 1 ≤ m ∧ l + m ≤ 16 ∧ (0 ≤ v ∧ v < 2 ^ m.toNat) ∧ ∀ H' : Hp, Same H H' → Q (.bl true) H'
theorem ok_Lbits_right (T : Txt K mg) : FnOk P w K mg base CX0 8 T.f_Lbits_right T.fd_Lbits_right ["_law_word_here", "_law_low", "_law_many", "_law_value"] (spBits) := by
  have G_Llist := ok_Llist (P := P) (w := w) (base := base) T
  have G_bits := ok_bits (P := P) (w := w) (base := base) T
  have G_Lof := ok_Lof (P := P) (w := w) (base := base) T
  have G_with_bits := ok_with_bits (P := P) (w := w) (base := base) T
  refine T.F_Lbits_right.ok sc_Lbits_right (fun vs H Q E h => ?_) (fun cdv A outer s H vs Q E hr h => ?_)
  · obtain ⟨x, l, m, v, rfl, hx, hl0, hl, hm, hlm, hv, k⟩ := h; rfl
  · obtain ⟨x, l, m, v, rfl, hx, hl0, hl, hm, hlm, hv, k⟩ := h
    refine ⟨_, (pss_cons (ps_par (i := 4) (j := 5) rfl sc_Lbits_right.nd rfl rfl (by decide) rfl rfl (pa_cons (pe_call G_Llist (hr.mono (by decide)) rfl T.g_Llist T.F_Llist.kp T.b_Llist .nil pass0 (pa_cons (pv 0) pa_nil)) (pa_cons (pe_slice sl_list (pe_call G_Llist (hr.mono (by decide)) rfl T.g_Llist T.F_Llist.kp T.b_Llist .nil pass0 (pa_cons (pv 3) pa_nil)) po_none (po_some (pv 2))) pa_nil)) (by rfl))
        (pss_cons (ps_if (pt_cmpR op_ne (pe_call G_bits (hr.mono (by decide)) rfl T.g_bits T.F_bits.kp T.b_bits .nil pass0 (pa_cons (pv 0) (pa_cons (pv 1) (pa_cons (pv 2) pa_nil)))) (pe_call G_Lof (hr.mono (by decide)) rfl T.g_Lof T.F_Lof.kp T.b_Lof .nil pass0 (pa_cons (pe_slice sl_list (pv 4) (po_some (pv 1)) (po_some (pe_op op_add (pv 1) (pv 2)))) pa_nil)) (nomark _))
          (pss_one (ps_ret pe_bl))
          pss_nil)
        (pss_cons (ps_set (i := 6) sc_Lbits_right.nd rfl (Or.inl rfl) (pe_call G_with_bits (hr.mono (by decide)) rfl T.g_with_bits T.F_with_bits.kp T.b_with_bits .nil pass0 (pa_cons (pv 0) (pa_cons (pv 1) (pa_cons (pv 2) (pa_cons (pv 3) pa_nil))))))
        (pss_cons (ps_if (PW.pt (pw_or (pt_cmpR op_ne (pv 6) (pe_call G_Lof (hr.mono (by decide)) rfl T.g_Lof T.F_Lof.kp T.b_Lof .nil pass0 (pa_cons (pe_op op_cat (pe_op op_cat (pe_slice sl_list (pv 4) po_none (po_some (pv 1))) (pv 5)) (pe_slice sl_list (pv 4) (po_some (pe_op op_add (pv 1) (pv 2))) po_none)) pa_nil)) (nomark _)) (pw_or1 (pt_cmpR op_ne (pe_call G_bits (hr.mono (by decide)) rfl T.g_bits T.F_bits.kp T.b_bits .nil pass0 (pa_cons (pv 6) (pa_cons (pv 1) (pa_cons (pv 2) pa_nil)))) (pv 3) (nomark _)))))
          (pss_one (ps_ret pe_bl))
          pss_nil)
        (pss_one (ps_ret (pe_cmpR op_eq (pe_call G_with_bits (hr.mono (by decide)) rfl T.g_with_bits T.F_with_bits.kp T.b_with_bits .nil pass0 (pa_cons (pv 6) (pa_cons (pv 1) (pa_cons (pv 2) (pa_cons (pe_call G_bits (hr.mono (by decide)) rfl T.g_bits T.F_bits.kp T.b_bits .nil pass0 (pa_cons (pv 0) (pa_cons (pv 1) (pa_cons (pv 2) pa_nil)))) pa_nil))))) (pv 0) (nomark _)))))))), ?_⟩
    clear G_Llist G_bits G_Lof G_with_bits
    clear hr
    obtain ⟨l, rfl⟩ := Int.eq_ofNat_of_zero_le hl0
    obtain ⟨m, rfl⟩ := Int.eq_ofNat_of_zero_le (show 0 ≤ m by omega)
    rw [Int.toNat_natCast] at hv
    have pm := pow16 (show m ≤ 16 by omega)
    obtain ⟨w1, w2, w3⟩ := wb (v := v) (l := l) (m := m) hx (by omega) hv
    have bx := bs_bits 16 x
    have lx := bs_len 16 x
    have xb : val (((bs 16 x).drop l).take m) = x / 2 ^ l % 2 ^ m := by
      rw [drop_bs l 16 x (by omega), take_bs m _ _ (by omega), val_bs]
    have y0 := Int.emod_nonneg (x / 2 ^ l) (show (2 : Int) ^ m ≠ 0 by omega)
    have y1 := Int.emod_lt_of_pos (x / 2 ^ l) pm.1
    walk_at "rd"
    intro p1 n1
    walk_at "rd"
    intro p2 n2
    walk_at "rd"
    intro p3 n3
    have c3 : cutV ((bs 16 v).map V.int) none (some (m : Int)) = (bs m v).map V.int := by rw [cut_to, take_bs m 16 v (by omega)]
    rw [c3]
    walk_at "rd"
    intro p4 n4
    rw [cut_mid _ l m (by omega)]
    walk_at "rd"
    · exact (bx.drop l).take m
    · simp [bs_len]; omega
    intro Ha sa
    rw [xb]
    have f1 : Ha p1 = some (.lst ((bs 16 x).map V.int)) := by
      refine sa _ _ ?_
      walk_at "hp"
    have f3 : Ha p3 = some (.lst ((bs m v).map V.int)) := by
      refine sa _ _ ?_
      walk_at "hp"
    have sH : Same H Ha := by
      refine L2.Same.trans ?_ sa
      walk_at "sm"
    walk_at "rd"
    refine iteN (fun h => absurd rfl h) (fun _ => ?_)
    walk_at "rd"
    intro p5 n5
    rw [cut_to]
    walk_at "rd"
    · simp [bs_len]; exact size_le (by omega)
    intro p6 n6
    rw [← List.map_append]
    walk_at "rd"
    intro p7 n7
    rw [show (l : Int) + (m : Int) = ((l + m : Nat) : Int) by omega, cut_from]
    walk_at "rd"
    · simp [bs_len]; exact size_le (by omega)
    intro p8 n8
    rw [← List.map_append]
    walk_at "rd"
    · exact ((bx.take l).app (bs_bits m v)).app (bx.drop (l + m))
    · simp [bs_len]; omega
    intro Hb sb
    rw [w1]
    walk_at "rd"
    refine iteN (fun h => absurd rfl h) (fun _ => ?_)
    walk_at "rd"
    refine iteN (fun h => absurd (congrArg V.int w3) h) (fun _ => ?_)
    walk_at "rd"
    refine qbl (k Hb ?_) (decide_eq_true (congrArg V.int ?_))
    · refine L2.Same.trans ?_ sb
      walk_at "sm"
    · rw [w3, Int.add_assoc, ← Int.add_mul, show v - x / 2 ^ l % 2 ^ m + (x / 2 ^ l % 2 ^ m - v) = 0 by omega, Int.zero_mul, Int.add_zero]
end
end K11

set_option Elab.async false
set_option linter.all false
set_option maxRecDepth 100000
set_option maxHeartbeats 8000000

namespace K11
open PySem PySem.Spec PyProof.Rows L2 Hx K11M
local macro_rules | `(tactic| walk_at "sm") => `(tactic| repeat' (first | assumption | apply Hx.Same.upd | exact L2.Same.refl _ | apply same_trans'))
local macro_rules | `(tactic| walk_at "hp") => `(tactic| repeat' (first | assumption | exact upd_same | apply old_upd | apply same_at))
local macro_rules | `(tactic| walk_at "rd") => `(tactic| repeat' (first | rfl | apply Exists.intro | apply And.intro | refine iteT ?_ | refine iteF ?_ | exact upd_same | exact SqL.of (by assumption) | exact SqL.of upd_same | exact SqT.of upd_same | exact SqT.of (by assumption) | ((with_reducible show (_ : Int) < _); omega) | ((with_reducible show (_ : Int) ≤ _); omega) | (show (_ : Prop); assumption) | exact Or.inl ⟨_, by assumption, rfl⟩ | exact Or.inl ⟨rfl, _, SqL.of (by assumption)⟩ | exact Or.inl ⟨rfl, _, SqL.of upd_same⟩ | apply old_upd | apply Hx.SqL.new | apply tyl_new | apply Pot.new | exact same_at (by assumption) (by assumption) | exact Or.inl (SqL.of (by assumption)) | exact Or.inl (by assumption) | exact Or.inl (SqL.of upd_same) | exact size_le (Nat.le_of_ble_eq_true rfl) | exact Nat.le_of_ble_eq_true rfl | exact True.intro | exact Or.inl rfl | exact Or.inr rfl | (show (_ : Prop); omega) | (show (_ : Prop); dsimp only; omega) | exact mulw64 (by omega) (by omega) | exact mulw64 (by (try dsimp only); omega) (by (try dsimp only); omega)))

section
variable {P : Program} {w : World} {K : PySem.W.Frag} {mg : Str → Option Value} {base : Heap}
theorem slen0 (x y : Int) : (bs 16 x).length = (bs 16 y).length := by rw [bs_len, bs_len]
theorem slen (x y : Int) : ((bs 16 x).map V.int).length = ((bs 16 y).map V.int).length := by rw [List.length_map, List.length_map, slen0 x y]
theorem zlen (f : Int → Int → Int) (x y : Int) : ((bs 16 x).map V.int).length = ((zw f (bs 16 x) (bs 16 y)).map V.int).length := by rw [List.length_map, List.length_map, zw_len (slen0 x y)]
theorem ok_Lsums_right (T : Txt K mg) : FnOk P w K mg base CX0 7 T.f_Lsums_right T.fd_Lsums_right ["_law_one", "_law_other"] (spRight2) := by
  have G_Llist := ok_Llist (P := P) (w := w) (base := base) T
  have G_times := ok_times (P := P) (w := w) (base := base) T
  have G_minus := ok_minus (P := P) (w := w) (base := base) T
  have G_plus := ok_plus (P := P) (w := w) (base := base) T
  have G_Ltimes := ok_Ltimes (P := P) (w := w) (base := base) T
  have G_Ladded := ok_Ladded (P := P) (w := w) (base := base) T
  have G_Lof := ok_Lof (P := P) (w := w) (base := base) T
  have G_over := ok_over (P := P) (w := w) (base := base) T
  have G_unlike := ok_unlike (P := P) (w := w) (base := base) T
  have G_either := ok_either (P := P) (w := w) (base := base) T
  have G_both := ok_both (P := P) (w := w) (base := base) T
  refine T.F_Lsums_right.ok sc_Lsums_right (fun vs H Q E h => ?_) (fun cdv A outer s H vs Q E hr h => ?_)
  · obtain ⟨x, y, rfl, hx, hy, k⟩ := h; rfl
  · obtain ⟨x, y, rfl, hx, hy, k⟩ := h
    refine ⟨_, (pss_cons (ps_par (i := 2) (j := 3) rfl sc_Lsums_right.nd rfl rfl (by decide) rfl rfl (pa_cons (pe_call G_Llist (hr.mono (by decide)) rfl T.g_Llist T.F_Llist.kp T.b_Llist .nil pass0 (pa_cons (pv 0) pa_nil)) (pa_cons (pe_call G_Llist (hr.mono (by decide)) rfl T.g_Llist T.F_Llist.kp T.b_Llist .nil pass0 (pa_cons (pv 1) pa_nil)) pa_nil)) (by rfl))
        (pss_cons (ps_setLc (i := 4) (own := [("_law_bit", 8)]) (g := gName 8)  rfl sc_Lsums_right.nd rfl rfl (sw_true rfl rfl rfl (by decide +kernel)) (pi_list (pv 3)) (blkOk_by (N := ["_law_one", "_law_other", "_law_near", "_law_far", "_law_turned", "_law_told", "_law_due", "_law_found", "_law_bit", "_law_row", "_law_a", "_law_b"]) (sc := defScope s_Lsums_right) (by decide +kernel)) (fun _ _ _ _ _ => pg_name (i := 8) sc_Lsums_right.nd rfl (Or.inl rfl)) (fun _ _ _ _ _ => pts_nil) (fun _ _ _ _ _ => (pe_op op_sub pe_int (pv 8))))
        (pss_cons (ps_set (i := 5) sc_Lsums_right.nd rfl (Or.inl rfl) (pe_lst (pa_cons (pe_call G_plus (hr.mono (by decide)) rfl T.g_plus T.F_plus.kp T.b_plus .nil pass0 (pa_cons (pv 0) (pa_cons (pv 1) pa_nil))) (pa_cons (pe_call G_minus (hr.mono (by decide)) rfl T.g_minus T.F_minus.kp T.b_minus .nil pass0 (pa_cons (pv 0) (pa_cons (pv 1) pa_nil))) (pa_cons (pe_callKA G_times (hr.mono (by decide)) rfl T.g_times T.F_times.kp T.kb_times pass0 (pk_cons (pv 0) (pk_cons (pv 1) pk_nil))) pa_nil)))))
        (pss_cons (ps_set (i := 6) sc_Lsums_right.nd rfl (Or.inl rfl) (pe_lst (pa_cons (pe_call G_Ladded (hr.mono (by decide)) rfl T.g_Ladded T.F_Ladded.kp T.b_Ladded .nil pass0 (pa_cons (pv 2) (pa_cons (pv 3) (pa_cons pe_int pa_nil)))) (pa_cons (pe_call G_Ladded (hr.mono (by decide)) rfl T.g_Ladded T.F_Ladded.kp T.b_Ladded .nil pass0 (pa_cons (pv 2) (pa_cons (pv 4) (pa_cons pe_int pa_nil)))) (pa_cons (pe_call G_Ltimes (hr.mono (by decide)) rfl T.g_Ltimes T.F_Ltimes.kp T.b_Ltimes .nil pass0 (pa_cons (pv 2) (pa_cons (pv 3) pa_nil))) pa_nil)))))
        (pss_cons (ps_if (pt_cmpR (op_neLI hr.units) (pv 5) (pe_lc (own := [("_law_row", 9)]) (g := gName 9) (tt := tYes) rfl sc_Lsums_right.nd (pi_list (pv 6)) (blkOk_by (N := ["_law_one", "_law_other", "_law_near", "_law_far", "_law_turned", "_law_told", "_law_due", "_law_found", "_law_bit", "_law_row", "_law_a", "_law_b"]) (sc := defScope s_Lsums_right) (by decide +kernel)) (fun _ _ _ _ _ => pg_name (i := 9) sc_Lsums_right.nd rfl (Or.inl rfl)) (fun _ _ _ _ _ => pts_nil) (fun _ _ _ _ _ => (pe_call G_Lof (hr.mono (by decide)) rfl T.g_Lof T.F_Lof.kp T.b_Lof .nil pass0 (pa_cons (pv 9) pa_nil)))) (nomark _))
          (pss_one (ps_ret pe_bl))
          pss_nil)
        (pss_cons (ps_if (PW.pt (pw_or (pt_cmpR op_ne (pe_call G_plus (hr.mono (by decide)) rfl T.g_plus T.F_plus.kp T.b_plus .nil pass0 (pa_cons (pe_call G_minus (hr.mono (by decide)) rfl T.g_minus T.F_minus.kp T.b_minus .nil pass0 (pa_cons (pv 0) (pa_cons (pv 1) pa_nil))) (pa_cons (pv 1) pa_nil))) (pv 0) (nomark _)) (pw_or1 (pt_cmpR op_ne (pe_call G_minus (hr.mono (by decide)) rfl T.g_minus T.F_minus.kp T.b_minus .nil pass0 (pa_cons pe_int (pa_cons (pe_call G_minus (hr.mono (by decide)) rfl T.g_minus T.F_minus.kp T.b_minus .nil pass0 (pa_cons pe_int (pa_cons (pv 0) pa_nil))) pa_nil))) (pv 0) (nomark _)))))
          (pss_one (ps_ret pe_bl))
          pss_nil)
        (pss_cons (ps_if (pt_cmpR op_gt (pv 1) pe_int (nomark _))
          (pss_cons (ps_set (i := 7) sc_Lsums_right.nd rfl (Or.inl rfl) (pe_call G_over (hr.mono (by decide)) rfl T.g_over T.F_over.kp T.b_over .nil pass0 (pa_cons (pv 0) (pa_cons (pv 1) pa_nil))))
          (pss_one (ps_if (pt_not (pt_chain op_le op_lt (pe_op op_mulW (pv 7) (pv 1)) (pv 0) (pe_op op_mulW (pe_op op_add (pv 7) pe_int) (pv 1))))
            (pss_one (ps_ret pe_bl))
            pss_nil)))
          pss_nil)
        (pss_cons (ps_set (i := 5) sc_Lsums_right.nd rfl (Or.inl rfl) (pe_lst (pa_cons (pe_call G_both (hr.mono (by decide)) rfl T.g_both T.F_both.kp T.b_both .nil pass0 (pa_cons (pv 0) (pa_cons (pv 1) pa_nil))) (pa_cons (pe_call G_either (hr.mono (by decide)) rfl T.g_either T.F_either.kp T.b_either .nil pass0 (pa_cons (pv 0) (pa_cons (pv 1) pa_nil))) (pa_cons (pe_call G_unlike (hr.mono (by decide)) rfl T.g_unlike T.F_unlike.kp T.b_unlike .nil pass0 (pa_cons (pv 0) (pa_cons (pv 1) pa_nil))) pa_nil)))))
        (pss_cons (ps_set (i := 6) sc_Lsums_right.nd rfl (Or.inl rfl) (pe_lst (pa_cons (pe_lc (own := [("_law_a", 10), ("_law_b", 11)]) (g := gTup _ 2 (gCons (gName 10) (gCons (gName 11) gNil))) (tt := tYes) rfl sc_Lsums_right.nd (pi_zip rfl T.m_zip (pa_cons (pv 2) (pa_cons (pv 3) pa_nil))) (blkOk_by (N := ["_law_one", "_law_other", "_law_near", "_law_far", "_law_turned", "_law_told", "_law_due", "_law_found", "_law_bit", "_law_row", "_law_a", "_law_b"]) (sc := defScope s_Lsums_right) (by decide +kernel)) (fun _ _ _ _ _ => pg_pair (i := 10) (j := 11) rfl sc_Lsums_right.nd rfl rfl (Or.inl rfl) (Or.inl rfl)) (fun _ _ _ _ _ => pts_nil) (fun _ _ _ _ _ => (pe_op op_mulW (pv 10) (pv 11)))) (pa_cons (pe_lc (own := [("_law_a", 10), ("_law_b", 11)]) (g := gTup _ 2 (gCons (gName 10) (gCons (gName 11) gNil))) (tt := tYes) rfl sc_Lsums_right.nd (pi_zip rfl T.m_zip (pa_cons (pv 2) (pa_cons (pv 3) pa_nil))) (blkOk_by (N := ["_law_one", "_law_other", "_law_near", "_law_far", "_law_turned", "_law_told", "_law_due", "_law_found", "_law_bit", "_law_row", "_law_a", "_law_b"]) (sc := defScope s_Lsums_right) (by decide +kernel)) (fun _ _ _ _ _ => pg_pair (i := 10) (j := 11) rfl sc_Lsums_right.nd rfl rfl (Or.inl rfl) (Or.inl rfl)) (fun _ _ _ _ _ => pts_nil) (fun _ _ _ _ _ => (pe_callB (call_max2 rfl) (by rfl) T.m_max (by decide +kernel) (pa_cons (pv 10) (pa_cons (pv 11) pa_nil))))) (pa_cons (pe_lc (own := [("_law_a", 10), ("_law_b", 11)]) (g := gTup _ 2 (gCons (gName 10) (gCons (gName 11) gNil))) (tt := tYes) rfl sc_Lsums_right.nd (pi_zip rfl T.m_zip (pa_cons (pv 2) (pa_cons (pv 3) pa_nil))) (blkOk_by (N := ["_law_one", "_law_other", "_law_near", "_law_far", "_law_turned", "_law_told", "_law_due", "_law_found", "_law_bit", "_law_row", "_law_a", "_law_b"]) (sc := defScope s_Lsums_right) (by decide +kernel)) (fun _ _ _ _ _ => pg_pair (i := 10) (j := 11) rfl sc_Lsums_right.nd rfl rfl (Or.inl rfl) (Or.inl rfl)) (fun _ _ _ _ _ => pts_nil) (fun _ _ _ _ _ => (pe_callB call_abs (by rfl) T.m_abs (by decide +kernel) (pa_cons (pe_op op_sub (pv 10) (pv 11)) pa_nil)))) pa_nil)))))
        (pss_one (ps_ret (pe_and (pe_cmpR (op_eqLI hr.units) (pv 5) (pe_lc (own := [("_law_row", 9)]) (g := gName 9) (tt := tYes) rfl sc_Lsums_right.nd (pi_list (pv 6)) (blkOk_by (N := ["_law_one", "_law_other", "_law_near", "_law_far", "_law_turned", "_law_told", "_law_due", "_law_found", "_law_bit", "_law_row", "_law_a", "_law_b"]) (sc := defScope s_Lsums_right) (by decide +kernel)) (fun _ _ _ _ _ => pg_name (i := 9) sc_Lsums_right.nd rfl (Or.inl rfl)) (fun _ _ _ _ _ => pts_nil) (fun _ _ _ _ _ => (pe_call G_Lof (hr.mono (by decide)) rfl T.g_Lof T.F_Lof.kp T.b_Lof .nil pass0 (pa_cons (pv 9) pa_nil)))) (nomark _)) (pe_one (pe_cmpR op_eq (pe_call G_plus (hr.mono (by decide)) rfl T.g_plus T.F_plus.kp T.b_plus .nil pass0 (pa_cons (pe_call G_both (hr.mono (by decide)) rfl T.g_both T.F_both.kp T.b_both .nil pass0 (pa_cons (pv 0) (pa_cons (pv 1) pa_nil))) (pa_cons (pe_call G_either (hr.mono (by decide)) rfl T.g_either T.F_either.kp T.b_either .nil pass0 (pa_cons (pv 0) (pa_cons (pv 1) pa_nil))) pa_nil))) (pe_call G_plus (hr.mono (by decide)) rfl T.g_plus T.F_plus.kp T.b_plus .nil pass0 (pa_cons (pv 0) (pa_cons (pv 1) pa_nil))) (nomark _))))))))))))))), ?_⟩
    clear G_Llist G_times G_minus G_plus G_Ltimes G_Ladded G_Lof G_over G_unlike G_either G_both
    clear hr
    have bx := bs_bits 16 x
    have by' := bs_bits 16 y
    have tb := turn_bits by'
    have lx := bs_len 16 x
    have ly := bs_len 16 y
    have lt : ((bs 16 y).map (1 - ·)).length = 16 := by rw [List.length_map, ly]
    walk_at "rd"
    intro p1 n1
    walk_at "rd"
    intro p2 n2
    walk_at "rd"
    intro D0 m0
    refine lc_mapS (xs := (bs 16 y).map V.int) (((bs 16 y).map (1 - ·)).map V.int) (SqL.of upd_same) m0 (by simp) (by simp [bs_len]) (fun i v u H' Q hx' hy' s kq => ?_) (fun H3 s3 e3 => ?_)
    · obtain ⟨z, rfl, hz⟩ := int_get hx'
      obtain ⟨z', rfl, hz'⟩ := int_get hy'
      obtain rfl : 1 - z = z' := by rw [List.getElem?_map, hz] at hz'; exact Option.some.inj hz'
      walk_at "rd"
      exact kq _ (L2.Same.refl _)
    have a1 : H3 p1 = some (.lst ((bs 16 x).map V.int)) := s3 _ _ (old_upd n2 upd_same)
    have a2 : H3 p2 = some (.lst ((bs 16 y).map V.int)) := s3 _ _ upd_same
    walk_at "rd"
    intro p3 n3
    walk_at "rd"
    intro p4 z4 H4 n4 s4 e4 b4 l4 v4
    have a1 : H4 p1 = _ := s4 _ _ (old_upd n3 a1)
    have a2 : H4 p2 = _ := s4 _ _ (old_upd n3 a2)
    have e3 : H4 D0 = _ := s4 _ _ (old_upd n3 e3)
    have t3 : H4 p3 = some (.lst (([(x + y) % 65536, (x - y) % 65536, x * y % 65536] : List Int).map V.int)) := s4 _ _ upd_same
    walk_at "rd"
    intro p5 z5 H5 n5 s5 e5 b5 l5 v5
    have a1 : H5 p1 = _ := s5 _ _ a1
    have a2 : H5 p2 = _ := s5 _ _ a2
    have e4 : H5 p4 = _ := s5 _ _ e4
    have t3 : H5 p3 = _ := s5 _ _ t3
    walk_at "rd"
    intro p6 z6 H6 n6 s6 e6 b6 l6 v6
    have a1 : H6 p1 = _ := s6 _ _ a1
    have a2 : H6 p2 = _ := s6 _ _ a2
    have e4 : H6 p4 = _ := s6 _ _ e4
    have e5 : H6 p5 = _ := s6 _ _ e5
    have t3 : H6 p3 = _ := s6 _ _ t3
    walk_at "rd"
    intro p7 n7
    walk_at "rd"
    intro D1 m1
    refine lc_mapS (xs := [.ref p4, .ref p5, .ref p6]) (([(x + y) % 65536, (x - y) % 65536, x * y % 65536] : List Int).map V.int) (SqL.of upd_same) m1 rfl (Nat.le_of_ble_eq_true rfl) (fun i v u H' Q hx' hy' s kq => ?_) (fun H7 s7 e7 => ?_)
    · have e4 : H' p4 = _ := s _ _ (old_upd n7 e4)
      have e5 : H' p5 = _ := s _ _ (old_upd n7 e5)
      have e6 : H' p6 = _ := s _ _ (old_upd n7 e6)
      match i, hx', hy' with
      | 0, hx', hy' =>
        obtain rfl := Option.some.inj hx'
        obtain rfl := Option.some.inj hy'
        walk_at "rd"
        exact fun H'' s'' => qint (kq H'' s'') (by rw [v4, val16 hx, val16 hy, Int.add_zero])
      | 1, hx', hy' =>
        obtain rfl := Option.some.inj hx'
        obtain rfl := Option.some.inj hy'
        walk_at "rd"
        exact fun H'' s'' => qint (kq H'' s'') (by rw [v5, K11M.turn_val, ly, val16 hx, val16 hy]; omega)
      | 2, hx', hy' =>
        obtain rfl := Option.some.inj hx'
        obtain rfl := Option.some.inj hy'
        walk_at "rd"
        exact fun H'' s'' => qint (kq H'' s'') (by rw [v6, val16 hx, val16 hy])
      | i + 3, hx', hy' => exact absurd hx' (by simp)
    have a1 : H7 p1 = _ := s7 _ _ (old_upd n7 a1)
    have a2 : H7 p2 = _ := s7 _ _ (old_upd n7 a2)
    have t3 : H7 p3 = _ := s7 _ _ (old_upd n7 t3)
    walk_at "rd"
    refine iteN (fun h => absurd (congrArg V.int (by dsimp only; omega)) h) (fun _ => ?_)
    walk_at "rd"
    refine iteN (fun h => absurd (congrArg V.int (by dsimp only; omega)) h) (fun _ => ?_)
    walk_at "rd"
    have q0 := Int.ediv_nonneg hx.1 hy.1
    have q1 := Int.ediv_le_self y hx.1
    refine iteD (fun h => ?_) (fun h => ?_)
    · have g1 := Int.ediv_mul_le x (show y ≠ 0 by omega)
      have g2 : x < (x / y + 1) * y := Int.lt_ediv_add_one_mul_self x h
      walk_at "rd"
      refine iteD (fun _ => ?_) (fun h => absurd g1 h)
      walk_at "rd"
      refine iteN (fun h => absurd g2 h) (fun _ => ?_)
      walk_at "rd"
      intro p8 n8
      walk_at "rd"
      intro D2 m2
      refine lc_mapZ (xs := (bs 16 x).map V.int) (zs := (bs 16 y).map V.int) ((zw (· * ·) (bs 16 x) (bs 16 y)).map V.int) (SqL.of (old_upd n8 a1)) (SqL.of (old_upd n8 a2)) m2 (zlen _ x y) (slen x y) (by simp [bs_len]) (fun i v z u T H' Q hx' hz' hy' s hT kq => ?_) (fun H8 s8 e8 => ?_)
      · obtain ⟨v, rfl, hv⟩ := int_get hx'
        obtain ⟨z, rfl, hz⟩ := int_get hz'
        obtain ⟨u, rfl, hu⟩ := int_get hy'
        have b1 := bx v (List.mem_of_getElem? hv)
        have b2 := by' z (List.mem_of_getElem? hz)
        obtain rfl := Option.some.inj ((zw_get hv hz).symm.trans hu)
        walk_at "rd"
        exact kq _ (L2.Same.refl _)
      have t8 : H8 p8 = some (.lst (([Builtin.bitAnd x y, Builtin.bitOr x y, Builtin.bitXor x y] : List Int).map V.int)) := s8 _ _ upd_same
      have a1 : H8 p1 = _ := s8 _ _ (old_upd n8 a1)
      have a2 : H8 p2 = _ := s8 _ _ (old_upd n8 a2)
      walk_at "rd"
      intro D3 m3
      refine lc_mapZ (xs := (bs 16 x).map V.int) (zs := (bs 16 y).map V.int) ((zw (fun a b => if b > a then b else a) (bs 16 x) (bs 16 y)).map V.int) (SqL.of a1) (SqL.of a2) m3 (zlen _ x y) (slen x y) (by simp [bs_len]) (fun i v z u T H' Q hx' hz' hy' s hT kq => ?_) (fun H9 s9 e9 => ?_)
      · obtain ⟨v, rfl, hv⟩ := int_get hx'
        obtain ⟨z, rfl, hz⟩ := int_get hz'
        obtain ⟨u, rfl, hu⟩ := int_get hy'
        obtain rfl := Option.some.inj ((zw_get hv hz).symm.trans hu)
        walk_at "rd"
        exact kq _ (L2.Same.refl _)
      have t8 : H9 p8 = _ := s9 _ _ t8
      have e8 : H9 D2 = _ := s9 _ _ e8
      have a1 : H9 p1 = _ := s9 _ _ a1
      have a2 : H9 p2 = _ := s9 _ _ a2
      walk_at "rd"
      intro D4 m4
      refine lc_mapZ (xs := (bs 16 x).map V.int) (zs := (bs 16 y).map V.int) ((zw (fun a b => if a - b < 0 then -(a - b) else a - b) (bs 16 x) (bs 16 y)).map V.int) (SqL.of a1) (SqL.of a2) m4 (zlen _ x y) (slen x y) (by simp [bs_len]) (fun i v z u T H' Q hx' hz' hy' s hT kq => ?_) (fun H10 s10 e10 => ?_)
      · obtain ⟨v, rfl, hv⟩ := int_get hx'
        obtain ⟨z, rfl, hz⟩ := int_get hz'
        obtain ⟨u, rfl, hu⟩ := int_get hy'
        obtain rfl := Option.some.inj ((zw_get hv hz).symm.trans hu)
        walk_at "rd"
        exact kq _ (L2.Same.refl _)
      have t8 : H10 p8 = _ := s10 _ _ t8
      have e8 : H10 D2 = _ := s10 _ _ e8
      have e9 : H10 D3 = _ := s10 _ _ e9
      walk_at "rd"
      intro p9 n9
      walk_at "rd"
      intro D5 m5
      refine lc_mapS (xs := [.ref D2, .ref D3, .ref D4]) (([Builtin.bitAnd x y, Builtin.bitOr x y, Builtin.bitXor x y] : List Int).map V.int) (SqL.of upd_same) m5 rfl (Nat.le_of_ble_eq_true rfl) (fun i v u H' Q hx' hy' s kq => ?_) (fun H11 s11 e11 => ?_)
      · have e8 : H' D2 = _ := s _ _ (old_upd n9 e8)
        have e9 : H' D3 = _ := s _ _ (old_upd n9 e9)
        have e10 : H' D4 = _ := s _ _ (old_upd n9 e10)
        match i, hx', hy' with
        | 0, hx', hy' =>
          obtain rfl := Option.some.inj hx'
          obtain rfl := Option.some.inj hy'
          walk_at "rd"
          · exact zw_bits (fun a b ha hb => by rcases ha with rfl | rfl <;> rcases hb with rfl | rfl <;> decide) bx by'
          exact fun H'' s'' => qint (kq H'' s'') (and16 hx hy).symm
        | 1, hx', hy' =>
          obtain rfl := Option.some.inj hx'
          obtain rfl := Option.some.inj hy'
          walk_at "rd"
          · exact zw_bits (fun a b ha hb => by rcases ha with rfl | rfl <;> rcases hb with rfl | rfl <;> decide) bx by'
          exact fun H'' s'' => qint (kq H'' s'') (or16 hx hy).symm
        | 2, hx', hy' =>
          obtain rfl := Option.some.inj hx'
          obtain rfl := Option.some.inj hy'
          walk_at "rd"
          · exact zw_bits (fun a b ha hb => by rcases ha with rfl | rfl <;> rcases hb with rfl | rfl <;> decide) bx by'
          exact fun H'' s'' => qint (kq H'' s'') (xor16 hx hy).symm
        | i + 3, hx', hy' => exact absurd hx' (by simp)
      have t8 : H11 p8 = _ := s11 _ _ (old_upd n9 t8)
      have aw := and_word hx hy
      have ow := or_word hx hy
      walk_at "rd"
      refine qbl (k H11 ?_) (decide_eq_true (congrArg V.int (by dsimp only; rw [and_or])))
      walk_at "sm"
    · walk_at "rd"
      intro p8 n8
      walk_at "rd"
      intro D2 m2
      refine lc_mapZ (xs := (bs 16 x).map V.int) (zs := (bs 16 y).map V.int) ((zw (· * ·) (bs 16 x) (bs 16 y)).map V.int) (SqL.of (old_upd n8 a1)) (SqL.of (old_upd n8 a2)) m2 (zlen _ x y) (slen x y) (by simp [bs_len]) (fun i v z u T H' Q hx' hz' hy' s hT kq => ?_) (fun H8 s8 e8 => ?_)
      · obtain ⟨v, rfl, hv⟩ := int_get hx'
        obtain ⟨z, rfl, hz⟩ := int_get hz'
        obtain ⟨u, rfl, hu⟩ := int_get hy'
        have b1 := bx v (List.mem_of_getElem? hv)
        have b2 := by' z (List.mem_of_getElem? hz)
        obtain rfl := Option.some.inj ((zw_get hv hz).symm.trans hu)
        walk_at "rd"
        exact kq _ (L2.Same.refl _)
      have t8 : H8 p8 = some (.lst (([Builtin.bitAnd x y, Builtin.bitOr x y, Builtin.bitXor x y] : List Int).map V.int)) := s8 _ _ upd_same
      have a1 : H8 p1 = _ := s8 _ _ (old_upd n8 a1)
      have a2 : H8 p2 = _ := s8 _ _ (old_upd n8 a2)
      walk_at "rd"
      intro D3 m3
      refine lc_mapZ (xs := (bs 16 x).map V.int) (zs := (bs 16 y).map V.int) ((zw (fun a b => if b > a then b else a) (bs 16 x) (bs 16 y)).map V.int) (SqL.of a1) (SqL.of a2) m3 (zlen _ x y) (slen x y) (by simp [bs_len]) (fun i v z u T H' Q hx' hz' hy' s hT kq => ?_) (fun H9 s9 e9 => ?_)
      · obtain ⟨v, rfl, hv⟩ := int_get hx'
        obtain ⟨z, rfl, hz⟩ := int_get hz'
        obtain ⟨u, rfl, hu⟩ := int_get hy'
        obtain rfl := Option.some.inj ((zw_get hv hz).symm.trans hu)
        walk_at "rd"
        exact kq _ (L2.Same.refl _)
      have t8 : H9 p8 = _ := s9 _ _ t8
      have e8 : H9 D2 = _ := s9 _ _ e8
      have a1 : H9 p1 = _ := s9 _ _ a1
      have a2 : H9 p2 = _ := s9 _ _ a2
      walk_at "rd"
      intro D4 m4
      refine lc_mapZ (xs := (bs 16 x).map V.int) (zs := (bs 16 y).map V.int) ((zw (fun a b => if a - b < 0 then -(a - b) else a - b) (bs 16 x) (bs 16 y)).map V.int) (SqL.of a1) (SqL.of a2) m4 (zlen _ x y) (slen x y) (by simp [bs_len]) (fun i v z u T H' Q hx' hz' hy' s hT kq => ?_) (fun H10 s10 e10 => ?_)
      · obtain ⟨v, rfl, hv⟩ := int_get hx'
        obtain ⟨z, rfl, hz⟩ := int_get hz'
        obtain ⟨u, rfl, hu⟩ := int_get hy'
        obtain rfl := Option.some.inj ((zw_get hv hz).symm.trans hu)
        walk_at "rd"
        exact kq _ (L2.Same.refl _)
      have t8 : H10 p8 = _ := s10 _ _ t8
      have e8 : H10 D2 = _ := s10 _ _ e8
      have e9 : H10 D3 = _ := s10 _ _ e9
      walk_at "rd"
      intro p9 n9
      walk_at "rd"
      intro D5 m5
      refine lc_mapS (xs := [.ref D2, .ref D3, .ref D4]) (([Builtin.bitAnd x y, Builtin.bitOr x y, Builtin.bitXor x y] : List Int).map V.int) (SqL.of upd_same) m5 rfl (Nat.le_of_ble_eq_true rfl) (fun i v u H' Q hx' hy' s kq => ?_) (fun H11 s11 e11 => ?_)
      · have e8 : H' D2 = _ := s _ _ (old_upd n9 e8)
        have e9 : H' D3 = _ := s _ _ (old_upd n9 e9)
        have e10 : H' D4 = _ := s _ _ (old_upd n9 e10)
        match i, hx', hy' with
        | 0, hx', hy' =>
          obtain rfl := Option.some.inj hx'
          obtain rfl := Option.some.inj hy'
          walk_at "rd"
          · exact zw_bits (fun a b ha hb => by rcases ha with rfl | rfl <;> rcases hb with rfl | rfl <;> decide) bx by'
          exact fun H'' s'' => qint (kq H'' s'') (and16 hx hy).symm
        | 1, hx', hy' =>
          obtain rfl := Option.some.inj hx'
          obtain rfl := Option.some.inj hy'
          walk_at "rd"
          · exact zw_bits (fun a b ha hb => by rcases ha with rfl | rfl <;> rcases hb with rfl | rfl <;> decide) bx by'
          exact fun H'' s'' => qint (kq H'' s'') (or16 hx hy).symm
        | 2, hx', hy' =>
          obtain rfl := Option.some.inj hx'
          obtain rfl := Option.some.inj hy'
          walk_at "rd"
          · exact zw_bits (fun a b ha hb => by rcases ha with rfl | rfl <;> rcases hb with rfl | rfl <;> decide) bx by'
          exact fun H'' s'' => qint (kq H'' s'') (xor16 hx hy).symm
        | i + 3, hx', hy' => exact absurd hx' (by simp)
      have t8 : H11 p8 = _ := s11 _ _ (old_upd n9 t8)
      have aw := and_word hx hy
      have ow := or_word hx hy
      walk_at "rd"
      refine qbl (k H11 ?_) (decide_eq_true (congrArg V.int (by dsimp only; rw [and_or])))
      walk_at "sm"
end
end K11

set_option Elab.async false
set_option linter.all false
set_option maxRecDepth 100000
set_option maxHeartbeats 8000000

namespace K11
open PySem PySem.Spec PyProof.Rows L2 Hx K11M
local macro_rules | `(tactic| walk_at "sm") => `(tactic| repeat' (first | assumption | apply Hx.Same.upd | exact L2.Same.refl _ | apply same_trans'))
local macro_rules | `(tactic| walk_at "hp") => `(tactic| repeat' (first | assumption | exact upd_same | apply old_upd | apply same_at))
local macro_rules | `(tactic| walk_at "rd") => `(tactic| repeat' (first | rfl | apply Exists.intro | apply And.intro | refine iteT ?_ | refine iteF ?_ | exact upd_same | exact SqL.of (by assumption) | exact SqL.of upd_same | exact SqT.of upd_same | exact SqT.of (by assumption) | ((with_reducible show (_ : Int) < _); omega) | ((with_reducible show (_ : Int) ≤ _); omega) | (show (_ : Prop); assumption) | exact Or.inl ⟨_, by assumption, rfl⟩ | exact Or.inl ⟨rfl, _, SqL.of (by assumption)⟩ | exact Or.inl ⟨rfl, _, SqL.of upd_same⟩ | apply old_upd | apply Hx.SqL.new | apply tyl_new | apply Pot.new | exact same_at (by assumption) (by assumption) | exact Or.inl (SqL.of (by assumption)) | exact Or.inl (by assumption) | exact Or.inl (SqL.of upd_same) | exact size_le (Nat.le_of_ble_eq_true rfl) | exact Nat.le_of_ble_eq_true rfl | exact True.intro | exact Or.inl rfl | exact Or.inr rfl | (show (_ : Prop); omega) | (show (_ : Prop); dsimp only; omega) | exact mulw64 (by omega) (by omega) | exact mulw64 (by (try dsimp only); omega) (by (try dsimp only); omega)))

section
variable {P : Program} {w : World} {K : PySem.W.Frag} {mg : Str → Option Value} {base : Heap}
def sp_law (K : PySem.W.Frag) : Sp := fun vs H Q _ => ∃ (a : Addr) (ns : List Int), vs = [.ref a] ∧ SqL K H a (ns.map V.int) ∧ ns.length ≤ 63 ∧ ∀ H', Q (.bl true) H'
theorem ok_law (T : Txt K mg) : FnOk P w K mg base CX0 9 T.f_law T.fd_law ["_law_script"] (sp_law K) := by
  have G_Lpot := ok_Lpot (P := P) (w := w) (base := base) T
  have G_Lword := ok_Lword (P := P) (w := w) (base := base) T
  have G_Lsums_right := ok_Lsums_right (P := P) (w := w) (base := base) T
  have G_Lpick := ok_Lpick (P := P) (w := w) (base := base) T
  have G_Ldraw := ok_Ldraw (P := P) (w := w) (base := base) T
  have G_Lshifts_right := ok_Lshifts_right (P := P) (w := w) (base := base) T
  have G_Lbits_right := ok_Lbits_right (P := P) (w := w) (base := base) T
  refine T.F_law.ok sc_law (fun vs H Q E h => ?_) (fun cdv A outer s H vs Q E hr h => ?_)
  · obtain ⟨a, ns, rfl, hS, hl, k⟩ := h; rfl
  · obtain ⟨a, ns, rfl, hS, hl, k⟩ := h
    refine ⟨_, (pss_cons (ps_set (i := 1) sc_law.nd rfl (Or.inl rfl) (pe_call G_Lpot (hr.mono (by decide)) rfl T.g_Lpot T.F_Lpot.kp T.b_Lpot .nil pass0 (pa_cons (pv 0) (pa_cons pe_int pa_nil))))
        (pss_cons (ps_forS PassesOwn.never rfl (pi_range1 rfl T.m_range (pa_cons pe_int pa_nil)) (pg_name (i := 2) sc_law.nd rfl (Or.inl rfl))
          (pss_cons (ps_par (i := 3) (j := 4) rfl sc_law.nd rfl rfl (by decide) rfl rfl (pa_cons (pe_call G_Lword (hr.mono (by decide)) rfl T.g_Lword T.F_Lword.kp T.b_Lword .nil pass0 (pa_cons (pv 1) pa_nil)) (pa_cons (pe_call G_Lword (hr.mono (by decide)) rfl T.g_Lword T.F_Lword.kp T.b_Lword .nil pass0 (pa_cons (pv 1) pa_nil)) pa_nil)) (by rfl))
          (pss_cons (ps_if (pt_not (pt_val (pe_call G_Lsums_right (hr.mono (by decide)) rfl T.g_Lsums_right T.F_Lsums_right.kp T.b_Lsums_right .nil pass0 (pa_cons (pv 3) (pa_cons (pv 4) pa_nil)))))
            (pss_one (ps_ret pe_bl))
            pss_nil)
          (pss_cons (ps_set (i := 5) sc_law.nd rfl (Or.inl rfl) (pe_call G_Lpick (hr.mono (by decide)) rfl T.g_Lpick T.F_Lpick.kp T.b_Lpick .nil pass0 (pa_cons (pv 1) (pa_cons (pe_lst (pa_cons (pe_call G_Ldraw (hr.mono (by decide)) rfl T.g_Ldraw T.F_Ldraw.kp T.b_Ldraw .nil pass0 (pa_cons (pv 1) (pa_cons pe_int pa_nil))) (pa_cons pe_int (pa_cons pe_int (pa_cons pe_int (pa_cons pe_int (pa_cons pe_int (pa_cons pe_int pa_nil)))))))) pa_nil))))
          (pss_cons (ps_if (pt_not (pt_val (pe_call G_Lshifts_right (hr.mono (by decide)) rfl T.g_Lshifts_right T.F_Lshifts_right.kp T.b_Lshifts_right .nil pass0 (pa_cons (pv 3) (pa_cons (pv 5) pa_nil)))))
            (pss_one (ps_ret pe_bl))
            pss_nil)
          (pss_cons (ps_set (i := 6) sc_law.nd rfl (Or.inl rfl) (pe_call G_Ldraw (hr.mono (by decide)) rfl T.g_Ldraw T.F_Ldraw.kp T.b_Ldraw .nil pass0 (pa_cons (pv 1) (pa_cons pe_int pa_nil))))
          (pss_cons (ps_set (i := 7) sc_law.nd rfl (Or.inl rfl) (pe_op op_add pe_int (pe_call G_Ldraw (hr.mono (by decide)) rfl T.g_Ldraw T.F_Ldraw.kp T.b_Ldraw .nil pass0 (pa_cons (pv 1) (pa_cons (pe_op op_sub pe_int (pv 6)) pa_nil)))))
          (pss_one (ps_if (pt_not (pt_val (pe_call G_Lbits_right (hr.mono (by decide)) rfl T.g_Lbits_right T.F_Lbits_right.kp T.b_Lbits_right .nil pass0 (pa_cons (pv 3) (pa_cons (pv 6) (pa_cons (pv 7) (pa_cons (pe_op op_mod (pv 4) (pe_op op_shl pe_int (pv 7))) pa_nil)))))))
            (pss_one (ps_ret pe_bl))
            pss_nil)))))))))
        (pss_one (ps_ret pe_bl)))), ?_⟩
    clear G_Lpot G_Lword G_Lsums_right G_Lpick G_Ldraw G_Lshifts_right G_Lbits_right
    clear hr
    walk_at "rd"
    intro p H1 n1 s1 hp
    walk_at "rd"
    refine ⟨for_range (n := 4) (fun n σ H' => Stop (∃ t2 t3 t4 t5 t6 t7 : Option V, σ = [some (.ref a), some (.ref p), t2, t3, t4, t5, t6, t7] ∧ Pot H' p)) ⟨⟨none, none, none, none, none, none, rfl, hp⟩⟩ (fun n σ H' hn h => ?_) (fun σ H' h => ?_)⟩
    · obtain ⟨t2, t3, t4, t5, t6, t7, rfl, hp⟩ := h.h
      walk_at "rd"
      intro x Ha hx hpa ba
      walk_at "rd"
      intro y Hb hy hpb bb
      walk_at "rd"
      intro Hc sc
      have hpc := hpb.same sc
      walk_at "rd"
      intro d Hd d0 d1 hpd bd
      walk_at "rd"
      intro q nq
      have ne := hpd.ne nq
      walk_at "rd"
      intro v He hv hpe be
      obtain ⟨j, rfl, hj⟩ : ∃ j : Int, v = .int j ∧ (0 ≤ j ∧ j < 65536) := by
        simp only [List.mem_cons, List.not_mem_nil, or_false] at hv
        rcases hv with rfl | rfl | rfl | rfl | rfl | rfl | rfl <;> exact ⟨_, rfl, by omega⟩
      walk_at "rd"
      intro Hf sf
      have hpf := hpe.same sf
      walk_at "rd"
      intro l Hg l0 l1 hpg bg
      walk_at "rd"
      intro m Hh m0 m1 hph bh
      obtain ⟨m', rfl⟩ := Int.eq_ofNat_of_zero_le m0
      have pm := pow16 (m := m' + 1) (by omega)
      have em : (1 + (m' : Int)).toNat = m' + 1 := by omega
      walk_at "rd"
      · rw [em]; omega
      · exact Int.emod_nonneg _ (by rw [em]; omega)
      · rw [em, Int.one_mul]; exact Int.emod_lt_of_pos _ pm.1
      intro Hi si
      have hpi := hph.same si
      walk_at "rd"
      exact ⟨⟨_, _, _, _, _, _, rfl, hpi⟩⟩
    · obtain ⟨t2, t3, t4, t5, t6, t7, rfl, hp⟩ := h.h
      walk_at "rd"
      exact k _
end
end K11

set_option Elab.async false
set_option linter.all false
set_option maxRecDepth 100000
set_option maxHeartbeats 8000000

namespace K11
open PySem PySem.Spec PyProof.Rows L2 Hx
theorem all_mk {l : PySem.W.OpenLaw} {w : World} {K : PySem.W.Frag} {h : Heap} {mg : Str → Option Value} {fa : Addr} (X : K.In h) (G : h.Ns mainGlobals mg) (hfa : mg "law" = some (.ref fa))
    {f_is_integer : Addr} {od_is_integer an_is_integer : Option Addr} {sl_is_integer : Array (Option Value)} {oc_is_integer kV_is_integer dc_is_integer pm_is_integer cd_is_integer ct_is_integer : Value}
    {f_is_between : Addr} {od_is_between an_is_between : Option Addr} {sl_is_between : Array (Option Value)} {oc_is_between kV_is_between dc_is_between pm_is_between cd_is_between ct_is_between : Value}
    {f_is_word : Addr} {od_is_word an_is_word : Option Addr} {sl_is_word : Array (Option Value)} {oc_is_word kV_is_word dc_is_word pm_is_word cd_is_word ct_is_word : Value}
    {f_need_word : Addr} {od_need_word an_need_word : Option Addr} {sl_need_word : Array (Option Value)} {oc_need_word kV_need_word dc_need_word pm_need_word cd_need_word ct_need_word : Value}
    {f_need_words : Addr} {od_need_words an_need_words : Option Addr} {sl_need_words : Array (Option Value)} {oc_need_words kV_need_words dc_need_words pm_need_words cd_need_words ct_need_words : Value}
    {f_plus : Addr} {od_plus an_plus : Option Addr} {sl_plus : Array (Option Value)} {oc_plus kV_plus dc_plus pm_plus cd_plus ct_plus : Value}
    {f_minus : Addr} {od_minus an_minus : Option Addr} {sl_minus : Array (Option Value)} {oc_minus kV_minus dc_minus pm_minus cd_minus ct_minus : Value}
    {f_times : Addr} {od_times an_times : Option Addr} {sl_times : Array (Option Value)} {oc_times kV_times dc_times pm_times cd_times ct_times : Value}
    {f_over : Addr} {od_over an_over : Option Addr} {sl_over : Array (Option Value)} {oc_over kV_over dc_over pm_over cd_over ct_over : Value}
    {f_both : Addr} {od_both an_both : Option Addr} {sl_both : Array (Option Value)} {oc_both kV_both dc_both pm_both cd_both ct_both : Value}
    {f_either : Addr} {od_either an_either : Option Addr} {sl_either : Array (Option Value)} {oc_either kV_either dc_either pm_either cd_either ct_either : Value}
    {f_unlike : Addr} {od_unlike an_unlike : Option Addr} {sl_unlike : Array (Option Value)} {oc_unlike kV_unlike dc_unlike pm_unlike cd_unlike ct_unlike : Value}
    {f_need_shift : Addr} {od_need_shift an_need_shift : Option Addr} {sl_need_shift : Array (Option Value)} {oc_need_shift kV_need_shift dc_need_shift pm_need_shift cd_need_shift ct_need_shift : Value}
    {f_shifted_up : Addr} {od_shifted_up an_shifted_up : Option Addr} {sl_shifted_up : Array (Option Value)} {oc_shifted_up kV_shifted_up dc_shifted_up pm_shifted_up cd_shifted_up ct_shifted_up : Value}
    {f_shifted_down : Addr} {od_shifted_down an_shifted_down : Option Addr} {sl_shifted_down : Array (Option Value)} {oc_shifted_down kV_shifted_down dc_shifted_down pm_shifted_down cd_shifted_down ct_shifted_down : Value}
    {f_signed : Addr} {od_signed an_signed : Option Addr} {sl_signed : Array (Option Value)} {oc_signed kV_signed dc_signed pm_signed cd_signed ct_signed : Value}
    {f_need_bits : Addr} {od_need_bits an_need_bits : Option Addr} {sl_need_bits : Array (Option Value)} {oc_need_bits kV_need_bits dc_need_bits pm_need_bits cd_need_bits ct_need_bits : Value}
    {f_bits : Addr} {od_bits an_bits : Option Addr} {sl_bits : Array (Option Value)} {oc_bits kV_bits dc_bits pm_bits cd_bits ct_bits : Value}
    {f_with_bits : Addr} {od_with_bits an_with_bits : Option Addr} {sl_with_bits : Array (Option Value)} {oc_with_bits kV_with_bits dc_with_bits pm_with_bits cd_with_bits ct_with_bits : Value}
    {f_Lpot : Addr} {od_Lpot an_Lpot : Option Addr} {sl_Lpot : Array (Option Value)} {oc_Lpot kV_Lpot dc_Lpot pm_Lpot cd_Lpot ct_Lpot : Value}
    {f_Ldraw : Addr} {od_Ldraw an_Ldraw : Option Addr} {sl_Ldraw : Array (Option Value)} {oc_Ldraw kV_Ldraw dc_Ldraw pm_Ldraw cd_Ldraw ct_Ldraw : Value}
    {f_Lpick : Addr} {od_Lpick an_Lpick : Option Addr} {sl_Lpick : Array (Option Value)} {oc_Lpick kV_Lpick dc_Lpick pm_Lpick cd_Lpick ct_Lpick : Value}
    {f_Lword : Addr} {od_Lword an_Lword : Option Addr} {sl_Lword : Array (Option Value)} {oc_Lword kV_Lword dc_Lword pm_Lword cd_Lword ct_Lword : Value}
    {f_Llist : Addr} {od_Llist an_Llist : Option Addr} {sl_Llist : Array (Option Value)} {oc_Llist kV_Llist dc_Llist pm_Llist cd_Llist ct_Llist : Value}
    {f_Lof : Addr} {od_Lof an_Lof : Option Addr} {sl_Lof : Array (Option Value)} {oc_Lof kV_Lof dc_Lof pm_Lof cd_Lof ct_Lof : Value}
    {f_Ladded : Addr} {od_Ladded an_Ladded : Option Addr} {sl_Ladded : Array (Option Value)} {oc_Ladded kV_Ladded dc_Ladded pm_Ladded cd_Ladded ct_Ladded : Value}
    {f_Ltimes : Addr} {od_Ltimes an_Ltimes : Option Addr} {sl_Ltimes : Array (Option Value)} {oc_Ltimes kV_Ltimes dc_Ltimes pm_Ltimes cd_Ltimes ct_Ltimes : Value}
    {f_Lsums_right : Addr} {od_Lsums_right an_Lsums_right : Option Addr} {sl_Lsums_right : Array (Option Value)} {oc_Lsums_right kV_Lsums_right dc_Lsums_right pm_Lsums_right cd_Lsums_right ct_Lsums_right : Value}
    {f_Lshifts_right : Addr} {od_Lshifts_right an_Lshifts_right : Option Addr} {sl_Lshifts_right : Array (Option Value)} {oc_Lshifts_right kV_Lshifts_right dc_Lshifts_right pm_Lshifts_right cd_Lshifts_right ct_Lshifts_right : Value}
    {f_Lbits_right : Addr} {od_Lbits_right an_Lbits_right : Option Addr} {sl_Lbits_right : Array (Option Value)} {oc_Lbits_right kV_Lbits_right dc_Lbits_right pm_Lbits_right cd_Lbits_right ct_Lbits_right : Value}
    {f_law : Addr} {od_law an_law : Option Addr} {sl_law : Array (Option Value)} {oc_law kV_law dc_law pm_law cd_law ct_law : Value}
    {t__WORD_BITS : Tok}
    {t_WORDS : Tok}
    (a_is_integer : PySem.W.nsIn K mainGlobals "is_integer" = some (some (.ref f_is_integer)))
    (l_is_integer : K.lookup f_is_integer = some ⟨oc_is_integer, od_is_integer, .func (PySem.W.fnOf "is_integer" "is_integer" (defArgs s_is_integer) (defBody s_is_integer) (defScope s_is_integer) .none kV_is_integer dc_is_integer pm_is_integer an_is_integer cd_is_integer ct_is_integer), sl_is_integer⟩)
    (c_is_integer : PySem.W.codeIn K cd_is_integer "is_integer" = true) (k_is_integer : PySem.W.keepIn K (.ref f_is_integer) = true)
    (a_is_between : PySem.W.nsIn K mainGlobals "is_between" = some (some (.ref f_is_between)))
    (l_is_between : K.lookup f_is_between = some ⟨oc_is_between, od_is_between, .func (PySem.W.fnOf "is_between" "is_between" (defArgs s_is_between) (defBody s_is_between) (defScope s_is_between) .none kV_is_between dc_is_between pm_is_between an_is_between cd_is_between ct_is_between), sl_is_between⟩)
    (c_is_between : PySem.W.codeIn K cd_is_between "is_between" = true) (k_is_between : PySem.W.keepIn K (.ref f_is_between) = true)
    (a_is_word : PySem.W.nsIn K mainGlobals "is_word" = some (some (.ref f_is_word)))
    (l_is_word : K.lookup f_is_word = some ⟨oc_is_word, od_is_word, .func (PySem.W.fnOf "is_word" "is_word" (defArgs s_is_word) (defBody s_is_word) (defScope s_is_word) .none kV_is_word dc_is_word pm_is_word an_is_word cd_is_word ct_is_word), sl_is_word⟩)
    (c_is_word : PySem.W.codeIn K cd_is_word "is_word" = true) (k_is_word : PySem.W.keepIn K (.ref f_is_word) = true)
    (a_need_word : PySem.W.nsIn K mainGlobals "need_word" = some (some (.ref f_need_word)))
    (l_need_word : K.lookup f_need_word = some ⟨oc_need_word, od_need_word, .func (PySem.W.fnOf "need_word" "need_word" (defArgs s_need_word) (defBody s_need_word) (defScope s_need_word) .none kV_need_word dc_need_word pm_need_word an_need_word cd_need_word ct_need_word), sl_need_word⟩)
    (c_need_word : PySem.W.codeIn K cd_need_word "need_word" = true) (k_need_word : PySem.W.keepIn K (.ref f_need_word) = true)
    (a_need_words : PySem.W.nsIn K mainGlobals "need_words" = some (some (.ref f_need_words)))
    (l_need_words : K.lookup f_need_words = some ⟨oc_need_words, od_need_words, .func (PySem.W.fnOf "need_words" "need_words" (defArgs s_need_words) (defBody s_need_words) (defScope s_need_words) .none kV_need_words dc_need_words pm_need_words an_need_words cd_need_words ct_need_words), sl_need_words⟩)
    (c_need_words : PySem.W.codeIn K cd_need_words "need_words" = true) (k_need_words : PySem.W.keepIn K (.ref f_need_words) = true)
    (a_plus : PySem.W.nsIn K mainGlobals "plus" = some (some (.ref f_plus)))
    (l_plus : K.lookup f_plus = some ⟨oc_plus, od_plus, .func (PySem.W.fnOf "plus" "plus" (defArgs s_plus) (defBody s_plus) (defScope s_plus) .none kV_plus dc_plus pm_plus an_plus cd_plus ct_plus), sl_plus⟩)
    (c_plus : PySem.W.codeIn K cd_plus "plus" = true) (k_plus : PySem.W.keepIn K (.ref f_plus) = true)
    (a_minus : PySem.W.nsIn K mainGlobals "minus" = some (some (.ref f_minus)))
    (l_minus : K.lookup f_minus = some ⟨oc_minus, od_minus, .func (PySem.W.fnOf "minus" "minus" (defArgs s_minus) (defBody s_minus) (defScope s_minus) .none kV_minus dc_minus pm_minus an_minus cd_minus ct_minus), sl_minus⟩)
    (c_minus : PySem.W.codeIn K cd_minus "minus" = true) (k_minus : PySem.W.keepIn K (.ref f_minus) = true)
    (a_times : PySem.W.nsIn K mainGlobals "times" = some (some (.ref f_times)))
    (l_times : K.lookup f_times = some ⟨oc_times, od_times, .func (PySem.W.fnOf "times" "times" (defArgs s_times) (defBody s_times) (defScope s_times) .none kV_times dc_times pm_times an_times cd_times ct_times), sl_times⟩)
    (c_times : PySem.W.codeIn K cd_times "times" = true) (k_times : PySem.W.keepIn K (.ref f_times) = true)
    (a_over : PySem.W.nsIn K mainGlobals "over" = some (some (.ref f_over)))
    (l_over : K.lookup f_over = some ⟨oc_over, od_over, .func (PySem.W.fnOf "over" "over" (defArgs s_over) (defBody s_over) (defScope s_over) .none kV_over dc_over pm_over an_over cd_over ct_over), sl_over⟩)
    (c_over : PySem.W.codeIn K cd_over "over" = true) (k_over : PySem.W.keepIn K (.ref f_over) = true)
    (a_both : PySem.W.nsIn K mainGlobals "both" = some (some (.ref f_both)))
    (l_both : K.lookup f_both = some ⟨oc_both, od_both, .func (PySem.W.fnOf "both" "both" (defArgs s_both) (defBody s_both) (defScope s_both) .none kV_both dc_both pm_both an_both cd_both ct_both), sl_both⟩)
    (c_both : PySem.W.codeIn K cd_both "both" = true) (k_both : PySem.W.keepIn K (.ref f_both) = true)
    (a_either : PySem.W.nsIn K mainGlobals "either" = some (some (.ref f_either)))
    (l_either : K.lookup f_either = some ⟨oc_either, od_either, .func (PySem.W.fnOf "either" "either" (defArgs s_either) (defBody s_either) (defScope s_either) .none kV_either dc_either pm_either an_either cd_either ct_either), sl_either⟩)
    (c_either : PySem.W.codeIn K cd_either "either" = true) (k_either : PySem.W.keepIn K (.ref f_either) = true)
    (a_unlike : PySem.W.nsIn K mainGlobals "unlike" = some (some (.ref f_unlike)))
    (l_unlike : K.lookup f_unlike = some ⟨oc_unlike, od_unlike, .func (PySem.W.fnOf "unlike" "unlike" (defArgs s_unlike) (defBody s_unlike) (defScope s_unlike) .none kV_unlike dc_unlike pm_unlike an_unlike cd_unlike ct_unlike), sl_unlike⟩)
    (c_unlike : PySem.W.codeIn K cd_unlike "unlike" = true) (k_unlike : PySem.W.keepIn K (.ref f_unlike) = true)
    (a_need_shift : PySem.W.nsIn K mainGlobals "need_shift" = some (some (.ref f_need_shift)))
    (l_need_shift : K.lookup f_need_shift = some ⟨oc_need_shift, od_need_shift, .func (PySem.W.fnOf "need_shift" "need_shift" (defArgs s_need_shift) (defBody s_need_shift) (defScope s_need_shift) .none kV_need_shift dc_need_shift pm_need_shift an_need_shift cd_need_shift ct_need_shift), sl_need_shift⟩)
    (c_need_shift : PySem.W.codeIn K cd_need_shift "need_shift" = true) (k_need_shift : PySem.W.keepIn K (.ref f_need_shift) = true)
    (a_shifted_up : PySem.W.nsIn K mainGlobals "shifted_up" = some (some (.ref f_shifted_up)))
    (l_shifted_up : K.lookup f_shifted_up = some ⟨oc_shifted_up, od_shifted_up, .func (PySem.W.fnOf "shifted_up" "shifted_up" (defArgs s_shifted_up) (defBody s_shifted_up) (defScope s_shifted_up) .none kV_shifted_up dc_shifted_up pm_shifted_up an_shifted_up cd_shifted_up ct_shifted_up), sl_shifted_up⟩)
    (c_shifted_up : PySem.W.codeIn K cd_shifted_up "shifted_up" = true) (k_shifted_up : PySem.W.keepIn K (.ref f_shifted_up) = true)
    (a_shifted_down : PySem.W.nsIn K mainGlobals "shifted_down" = some (some (.ref f_shifted_down)))
    (l_shifted_down : K.lookup f_shifted_down = some ⟨oc_shifted_down, od_shifted_down, .func (PySem.W.fnOf "shifted_down" "shifted_down" (defArgs s_shifted_down) (defBody s_shifted_down) (defScope s_shifted_down) .none kV_shifted_down dc_shifted_down pm_shifted_down an_shifted_down cd_shifted_down ct_shifted_down), sl_shifted_down⟩)
    (c_shifted_down : PySem.W.codeIn K cd_shifted_down "shifted_down" = true) (k_shifted_down : PySem.W.keepIn K (.ref f_shifted_down) = true)
    (a_signed : PySem.W.nsIn K mainGlobals "signed" = some (some (.ref f_signed)))
    (l_signed : K.lookup f_signed = some ⟨oc_signed, od_signed, .func (PySem.W.fnOf "signed" "signed" (defArgs s_signed) (defBody s_signed) (defScope s_signed) .none kV_signed dc_signed pm_signed an_signed cd_signed ct_signed), sl_signed⟩)
    (c_signed : PySem.W.codeIn K cd_signed "signed" = true) (k_signed : PySem.W.keepIn K (.ref f_signed) = true)
    (a_need_bits : PySem.W.nsIn K mainGlobals "need_bits" = some (some (.ref f_need_bits)))
    (l_need_bits : K.lookup f_need_bits = some ⟨oc_need_bits, od_need_bits, .func (PySem.W.fnOf "need_bits" "need_bits" (defArgs s_need_bits) (defBody s_need_bits) (defScope s_need_bits) .none kV_need_bits dc_need_bits pm_need_bits an_need_bits cd_need_bits ct_need_bits), sl_need_bits⟩)
    (c_need_bits : PySem.W.codeIn K cd_need_bits "need_bits" = true) (k_need_bits : PySem.W.keepIn K (.ref f_need_bits) = true)
    (a_bits : PySem.W.nsIn K mainGlobals "bits" = some (some (.ref f_bits)))
    (l_bits : K.lookup f_bits = some ⟨oc_bits, od_bits, .func (PySem.W.fnOf "bits" "bits" (defArgs s_bits) (defBody s_bits) (defScope s_bits) .none kV_bits dc_bits pm_bits an_bits cd_bits ct_bits), sl_bits⟩)
    (c_bits : PySem.W.codeIn K cd_bits "bits" = true) (k_bits : PySem.W.keepIn K (.ref f_bits) = true)
    (a_with_bits : PySem.W.nsIn K mainGlobals "with_bits" = some (some (.ref f_with_bits)))
    (l_with_bits : K.lookup f_with_bits = some ⟨oc_with_bits, od_with_bits, .func (PySem.W.fnOf "with_bits" "with_bits" (defArgs s_with_bits) (defBody s_with_bits) (defScope s_with_bits) .none kV_with_bits dc_with_bits pm_with_bits an_with_bits cd_with_bits ct_with_bits), sl_with_bits⟩)
    (c_with_bits : PySem.W.codeIn K cd_with_bits "with_bits" = true) (k_with_bits : PySem.W.keepIn K (.ref f_with_bits) = true)
    (a_Lpot : PySem.W.nsIn K mainGlobals "_law_pot" = some (some (.ref f_Lpot)))
    (l_Lpot : K.lookup f_Lpot = some ⟨oc_Lpot, od_Lpot, .func (PySem.W.fnOf "_law_pot" "_law_pot" (defArgs s_Lpot) (defBody s_Lpot) (defScope s_Lpot) .none kV_Lpot dc_Lpot pm_Lpot an_Lpot cd_Lpot ct_Lpot), sl_Lpot⟩)
    (c_Lpot : PySem.W.codeIn K cd_Lpot "_law_pot" = true) (k_Lpot : PySem.W.keepIn K (.ref f_Lpot) = true)
    (a_Ldraw : PySem.W.nsIn K mainGlobals "_law_draw" = some (some (.ref f_Ldraw)))
    (l_Ldraw : K.lookup f_Ldraw = some ⟨oc_Ldraw, od_Ldraw, .func (PySem.W.fnOf "_law_draw" "_law_draw" (defArgs s_Ldraw) (defBody s_Ldraw) (defScope s_Ldraw) .none kV_Ldraw dc_Ldraw pm_Ldraw an_Ldraw cd_Ldraw ct_Ldraw), sl_Ldraw⟩)
    (c_Ldraw : PySem.W.codeIn K cd_Ldraw "_law_draw" = true) (k_Ldraw : PySem.W.keepIn K (.ref f_Ldraw) = true)
    (a_Lpick : PySem.W.nsIn K mainGlobals "_law_pick" = some (some (.ref f_Lpick)))
    (l_Lpick : K.lookup f_Lpick = some ⟨oc_Lpick, od_Lpick, .func (PySem.W.fnOf "_law_pick" "_law_pick" (defArgs s_Lpick) (defBody s_Lpick) (defScope s_Lpick) .none kV_Lpick dc_Lpick pm_Lpick an_Lpick cd_Lpick ct_Lpick), sl_Lpick⟩)
    (c_Lpick : PySem.W.codeIn K cd_Lpick "_law_pick" = true) (k_Lpick : PySem.W.keepIn K (.ref f_Lpick) = true)
    (a_Lword : PySem.W.nsIn K mainGlobals "_law_word" = some (some (.ref f_Lword)))
    (l_Lword : K.lookup f_Lword = some ⟨oc_Lword, od_Lword, .func (PySem.W.fnOf "_law_word" "_law_word" (defArgs s_Lword) (defBody s_Lword) (defScope s_Lword) .none kV_Lword dc_Lword pm_Lword an_Lword cd_Lword ct_Lword), sl_Lword⟩)
    (c_Lword : PySem.W.codeIn K cd_Lword "_law_word" = true) (k_Lword : PySem.W.keepIn K (.ref f_Lword) = true)
    (a_Llist : PySem.W.nsIn K mainGlobals "_law_list" = some (some (.ref f_Llist)))
    (l_Llist : K.lookup f_Llist = some ⟨oc_Llist, od_Llist, .func (PySem.W.fnOf "_law_list" "_law_list" (defArgs s_Llist) (defBody s_Llist) (defScope s_Llist) .none kV_Llist dc_Llist pm_Llist an_Llist cd_Llist ct_Llist), sl_Llist⟩)
    (c_Llist : PySem.W.codeIn K cd_Llist "_law_list" = true) (k_Llist : PySem.W.keepIn K (.ref f_Llist) = true)
    (a_Lof : PySem.W.nsIn K mainGlobals "_law_of" = some (some (.ref f_Lof)))
    (l_Lof : K.lookup f_Lof = some ⟨oc_Lof, od_Lof, .func (PySem.W.fnOf "_law_of" "_law_of" (defArgs s_Lof) (defBody s_Lof) (defScope s_Lof) .none kV_Lof dc_Lof pm_Lof an_Lof cd_Lof ct_Lof), sl_Lof⟩)
    (c_Lof : PySem.W.codeIn K cd_Lof "_law_of" = true) (k_Lof : PySem.W.keepIn K (.ref f_Lof) = true)
    (a_Ladded : PySem.W.nsIn K mainGlobals "_law_added" = some (some (.ref f_Ladded)))
    (l_Ladded : K.lookup f_Ladded = some ⟨oc_Ladded, od_Ladded, .func (PySem.W.fnOf "_law_added" "_law_added" (defArgs s_Ladded) (defBody s_Ladded) (defScope s_Ladded) .none kV_Ladded dc_Ladded pm_Ladded an_Ladded cd_Ladded ct_Ladded), sl_Ladded⟩)
    (c_Ladded : PySem.W.codeIn K cd_Ladded "_law_added" = true) (k_Ladded : PySem.W.keepIn K (.ref f_Ladded) = true)
    (a_Ltimes : PySem.W.nsIn K mainGlobals "_law_times" = some (some (.ref f_Ltimes)))
    (l_Ltimes : K.lookup f_Ltimes = some ⟨oc_Ltimes, od_Ltimes, .func (PySem.W.fnOf "_law_times" "_law_times" (defArgs s_Ltimes) (defBody s_Ltimes) (defScope s_Ltimes) .none kV_Ltimes dc_Ltimes pm_Ltimes an_Ltimes cd_Ltimes ct_Ltimes), sl_Ltimes⟩)
    (c_Ltimes : PySem.W.codeIn K cd_Ltimes "_law_times" = true) (k_Ltimes : PySem.W.keepIn K (.ref f_Ltimes) = true)
    (a_Lsums_right : PySem.W.nsIn K mainGlobals "_law_sums_right" = some (some (.ref f_Lsums_right)))
    (l_Lsums_right : K.lookup f_Lsums_right = some ⟨oc_Lsums_right, od_Lsums_right, .func (PySem.W.fnOf "_law_sums_right" "_law_sums_right" (defArgs s_Lsums_right) (defBody s_Lsums_right) (defScope s_Lsums_right) .none kV_Lsums_right dc_Lsums_right pm_Lsums_right an_Lsums_right cd_Lsums_right ct_Lsums_right), sl_Lsums_right⟩)
    (c_Lsums_right : PySem.W.codeIn K cd_Lsums_right "_law_sums_right" = true) (k_Lsums_right : PySem.W.keepIn K (.ref f_Lsums_right) = true)
    (a_Lshifts_right : PySem.W.nsIn K mainGlobals "_law_shifts_right" = some (some (.ref f_Lshifts_right)))
    (l_Lshifts_right : K.lookup f_Lshifts_right = some ⟨oc_Lshifts_right, od_Lshifts_right, .func (PySem.W.fnOf "_law_shifts_right" "_law_shifts_right" (defArgs s_Lshifts_right) (defBody s_Lshifts_right) (defScope s_Lshifts_right) .none kV_Lshifts_right dc_Lshifts_right pm_Lshifts_right an_Lshifts_right cd_Lshifts_right ct_Lshifts_right), sl_Lshifts_right⟩)
    (c_Lshifts_right : PySem.W.codeIn K cd_Lshifts_right "_law_shifts_right" = true) (k_Lshifts_right : PySem.W.keepIn K (.ref f_Lshifts_right) = true)
    (a_Lbits_right : PySem.W.nsIn K mainGlobals "_law_bits_right" = some (some (.ref f_Lbits_right)))
    (l_Lbits_right : K.lookup f_Lbits_right = some ⟨oc_Lbits_right, od_Lbits_right, .func (PySem.W.fnOf "_law_bits_right" "_law_bits_right" (defArgs s_Lbits_right) (defBody s_Lbits_right) (defScope s_Lbits_right) .none kV_Lbits_right dc_Lbits_right pm_Lbits_right an_Lbits_right cd_Lbits_right ct_Lbits_right), sl_Lbits_right⟩)
    (c_Lbits_right : PySem.W.codeIn K cd_Lbits_right "_law_bits_right" = true) (k_Lbits_right : PySem.W.keepIn K (.ref f_Lbits_right) = true)
    (a_law : PySem.W.nsIn K mainGlobals "law" = some (some (.ref f_law)))
    (l_law : K.lookup f_law = some ⟨oc_law, od_law, .func (PySem.W.fnOf "law" "law" (defArgs s_law) (defBody s_law) (defScope s_law) .none kV_law dc_law pm_law an_law cd_law ct_law), sl_law⟩)
    (c_law : PySem.W.codeIn K cd_law "law" = true) (k_law : PySem.W.keepIn K (.ref f_law) = true)
    (z_abs : PySem.W.nsIn K mainGlobals "abs" = some none)
    (z_bool : PySem.W.nsIn K mainGlobals "bool" = some none)
    (z_divmod : PySem.W.nsIn K mainGlobals "divmod" = some none)
    (z_enumerate : PySem.W.nsIn K mainGlobals "enumerate" = some none)
    (z_int : PySem.W.nsIn K mainGlobals "int" = some none)
    (z_isinstance : PySem.W.nsIn K mainGlobals "isinstance" = some none)
    (z_len : PySem.W.nsIn K mainGlobals "len" = some none)
    (z_max : PySem.W.nsIn K mainGlobals "max" = some none)
    (z_min : PySem.W.nsIn K mainGlobals "min" = some none)
    (z_range : PySem.W.nsIn K mainGlobals "range" = some none)
    (z_zip : PySem.W.nsIn K mainGlobals "zip" = some none)
    (x__WORD_BITS : PySem.W.nsIn K mainGlobals "_WORD_BITS" = some (some (.int 16 t__WORD_BITS)))
    (x_WORDS : PySem.W.nsIn K mainGlobals "WORDS" = some (some (.int 65536 t_WORDS)))
    : ∃ fd : FuncData, (∀ (s : Shared) (v : Value), BindsTo s fd ⟨[v], []⟩ [("_law_script", v)]) ∧ ∀ base : Heap, K.In base → base.Ns mainGlobals mg → FnOk l.prog w K mg base CX0 9 fa fd ["_law_script"] (sp_law K) := by
  have e := hfa.symm.trans (PySem.W.mg_of X G a_law)
  cases e
  let T : Txt K mg := {
    f_is_integer := _, fd_is_integer := _, F_is_integer := fun_mk (st := s_is_integer) l_is_integer c_is_integer k_is_integer,
    g_is_integer := PySem.W.mg_of X G a_is_integer,
    b_is_integer := (fun_mk (st := s_is_integer) l_is_integer c_is_integer k_is_integer).binds (ps := ["value"]) fun _ _ _ _ _ _ us hl => match us, hl with | [_], _ => rfl,
    f_is_between := _, fd_is_between := _, F_is_between := fun_mk (st := s_is_between) l_is_between c_is_between k_is_between,
    g_is_between := PySem.W.mg_of X G a_is_between,
    b_is_between := (fun_mk (st := s_is_between) l_is_between c_is_between k_is_between).binds (ps := ["value", "least", "most"]) fun _ _ _ _ _ _ us hl => match us, hl with | [_, _, _], _ => rfl,
    f_is_word := _, fd_is_word := _, F_is_word := fun_mk (st := s_is_word) l_is_word c_is_word k_is_word,
    g_is_word := PySem.W.mg_of X G a_is_word,
    b_is_word := (fun_mk (st := s_is_word) l_is_word c_is_word k_is_word).binds (ps := ["value"]) fun _ _ _ _ _ _ us hl => match us, hl with | [_], _ => rfl,
    f_need_word := _, fd_need_word := _, F_need_word := fun_mk (st := s_need_word) l_need_word c_need_word k_need_word,
    g_need_word := PySem.W.mg_of X G a_need_word,
    b_need_word := (fun_mk (st := s_need_word) l_need_word c_need_word k_need_word).binds (ps := ["value"]) fun _ _ _ _ _ _ us hl => match us, hl with | [_], _ => rfl,
    f_need_words := _, fd_need_words := _, F_need_words := fun_mk (st := s_need_words) l_need_words c_need_words k_need_words,
    g_need_words := PySem.W.mg_of X G a_need_words,
    b_need_words := (fun_mk (st := s_need_words) l_need_words c_need_words k_need_words).binds (ps := ["one", "other"]) fun _ _ _ _ _ _ us hl => match us, hl with | [_, _], _ => rfl,
    f_plus := _, fd_plus := _, F_plus := fun_mk (st := s_plus) l_plus c_plus k_plus,
    g_plus := PySem.W.mg_of X G a_plus,
    b_plus := (fun_mk (st := s_plus) l_plus c_plus k_plus).binds (ps := ["one", "other"]) fun _ _ _ _ _ _ us hl => match us, hl with | [_, _], _ => rfl,
    f_minus := _, fd_minus := _, F_minus := fun_mk (st := s_minus) l_minus c_minus k_minus,
    g_minus := PySem.W.mg_of X G a_minus,
    b_minus := (fun_mk (st := s_minus) l_minus c_minus k_minus).binds (ps := ["one", "other"]) fun _ _ _ _ _ _ us hl => match us, hl with | [_, _], _ => rfl,
    f_times := _, fd_times := _, F_times := fun_mk (st := s_times) l_times c_times k_times,
    g_times := PySem.W.mg_of X G a_times,
    b_times := (fun_mk (st := s_times) l_times c_times k_times).binds (ps := ["one", "other"]) fun _ _ _ _ _ _ us hl => match us, hl with | [_, _], _ => rfl,
    kb_times := kw_binds (fun_mk (st := s_times) l_times c_times k_times) (by decide) fun _ _ _ _ _ _ us hl => match us, hl with | [_, _], _ => rfl,
    f_over := _, fd_over := _, F_over := fun_mk (st := s_over) l_over c_over k_over,
    g_over := PySem.W.mg_of X G a_over,
    b_over := (fun_mk (st := s_over) l_over c_over k_over).binds (ps := ["one", "other"]) fun _ _ _ _ _ _ us hl => match us, hl with | [_, _], _ => rfl,
    f_both := _, fd_both := _, F_both := fun_mk (st := s_both) l_both c_both k_both,
    g_both := PySem.W.mg_of X G a_both,
    b_both := (fun_mk (st := s_both) l_both c_both k_both).binds (ps := ["one", "other"]) fun _ _ _ _ _ _ us hl => match us, hl with | [_, _], _ => rfl,
    f_either := _, fd_either := _, F_either := fun_mk (st := s_either) l_either c_either k_either,
    g_either := PySem.W.mg_of X G a_either,
    b_either := (fun_mk (st := s_either) l_either c_either k_either).binds (ps := ["one", "other"]) fun _ _ _ _ _ _ us hl => match us, hl with | [_, _], _ => rfl,
    f_unlike := _, fd_unlike := _, F_unlike := fun_mk (st := s_unlike) l_unlike c_unlike k_unlike,
    g_unlike := PySem.W.mg_of X G a_unlike,
    b_unlike := (fun_mk (st := s_unlike) l_unlike c_unlike k_unlike).binds (ps := ["one", "other"]) fun _ _ _ _ _ _ us hl => match us, hl with | [_, _], _ => rfl,
    f_need_shift := _, fd_need_shift := _, F_need_shift := fun_mk (st := s_need_shift) l_need_shift c_need_shift k_need_shift,
    g_need_shift := PySem.W.mg_of X G a_need_shift,
    b_need_shift := (fun_mk (st := s_need_shift) l_need_shift c_need_shift k_need_shift).binds (ps := ["one", "many"]) fun _ _ _ _ _ _ us hl => match us, hl with | [_, _], _ => rfl,
    f_shifted_up := _, fd_shifted_up := _, F_shifted_up := fun_mk (st := s_shifted_up) l_shifted_up c_shifted_up k_shifted_up,
    g_shifted_up := PySem.W.mg_of X G a_shifted_up,
    b_shifted_up := (fun_mk (st := s_shifted_up) l_shifted_up c_shifted_up k_shifted_up).binds (ps := ["one", "many"]) fun _ _ _ _ _ _ us hl => match us, hl with | [_, _], _ => rfl,
    f_shifted_down := _, fd_shifted_down := _, F_shifted_down := fun_mk (st := s_shifted_down) l_shifted_down c_shifted_down k_shifted_down,
    g_shifted_down := PySem.W.mg_of X G a_shifted_down,
    b_shifted_down := (fun_mk (st := s_shifted_down) l_shifted_down c_shifted_down k_shifted_down).binds (ps := ["one", "many"]) fun _ _ _ _ _ _ us hl => match us, hl with | [_, _], _ => rfl,
    kb_shifted_down := kw_binds (fun_mk (st := s_shifted_down) l_shifted_down c_shifted_down k_shifted_down) (by decide) fun _ _ _ _ _ _ us hl => match us, hl with | [_, _], _ => rfl,
    f_signed := _, fd_signed := _, F_signed := fun_mk (st := s_signed) l_signed c_signed k_signed,
    g_signed := PySem.W.mg_of X G a_signed,
    b_signed := (fun_mk (st := s_signed) l_signed c_signed k_signed).binds (ps := ["word"]) fun _ _ _ _ _ _ us hl => match us, hl with | [_], _ => rfl,
    f_need_bits := _, fd_need_bits := _, F_need_bits := fun_mk (st := s_need_bits) l_need_bits c_need_bits k_need_bits,
    g_need_bits := PySem.W.mg_of X G a_need_bits,
    b_need_bits := (fun_mk (st := s_need_bits) l_need_bits c_need_bits k_need_bits).binds (ps := ["word", "low", "many"]) fun _ _ _ _ _ _ us hl => match us, hl with | [_, _, _], _ => rfl,
    f_bits := _, fd_bits := _, F_bits := fun_mk (st := s_bits) l_bits c_bits k_bits,
    g_bits := PySem.W.mg_of X G a_bits,
    b_bits := (fun_mk (st := s_bits) l_bits c_bits k_bits).binds (ps := ["word", "low", "many"]) fun _ _ _ _ _ _ us hl => match us, hl with | [_, _, _], _ => rfl,
    f_with_bits := _, fd_with_bits := _, F_with_bits := fun_mk (st := s_with_bits) l_with_bits c_with_bits k_with_bits,
    g_with_bits := PySem.W.mg_of X G a_with_bits,
    b_with_bits := (fun_mk (st := s_with_bits) l_with_bits c_with_bits k_with_bits).binds (ps := ["word", "low", "many", "value"]) fun _ _ _ _ _ _ us hl => match us, hl with | [_, _, _, _], _ => rfl,
    f_Lpot := _, fd_Lpot := _, F_Lpot := fun_mk (st := s_Lpot) l_Lpot c_Lpot k_Lpot,
    g_Lpot := PySem.W.mg_of X G a_Lpot,
    b_Lpot := (fun_mk (st := s_Lpot) l_Lpot c_Lpot k_Lpot).binds (ps := ["_law_script", "_law_k"]) fun _ _ _ _ _ _ us hl => match us, hl with | [_, _], _ => rfl,
    f_Ldraw := _, fd_Ldraw := _, F_Ldraw := fun_mk (st := s_Ldraw) l_Ldraw c_Ldraw k_Ldraw,
    g_Ldraw := PySem.W.mg_of X G a_Ldraw,
    b_Ldraw := (fun_mk (st := s_Ldraw) l_Ldraw c_Ldraw k_Ldraw).binds (ps := ["_law_pot_here", "_law_size"]) fun _ _ _ _ _ _ us hl => match us, hl with | [_, _], _ => rfl,
    f_Lpick := _, fd_Lpick := _, F_Lpick := fun_mk (st := s_Lpick) l_Lpick c_Lpick k_Lpick,
    g_Lpick := PySem.W.mg_of X G a_Lpick,
    b_Lpick := (fun_mk (st := s_Lpick) l_Lpick c_Lpick k_Lpick).binds (ps := ["_law_pot_here", "_law_some"]) fun _ _ _ _ _ _ us hl => match us, hl with | [_, _], _ => rfl,
    f_Lword := _, fd_Lword := _, F_Lword := fun_mk (st := s_Lword) l_Lword c_Lword k_Lword,
    g_Lword := PySem.W.mg_of X G a_Lword,
    b_Lword := (fun_mk (st := s_Lword) l_Lword c_Lword k_Lword).binds (ps := ["_law_pot_here"]) fun _ _ _ _ _ _ us hl => match us, hl with | [_], _ => rfl,
    f_Llist := _, fd_Llist := _, F_Llist := fun_mk (st := s_Llist) l_Llist c_Llist k_Llist,
    g_Llist := PySem.W.mg_of X G a_Llist,
    b_Llist := (fun_mk (st := s_Llist) l_Llist c_Llist k_Llist).binds (ps := ["_law_word_here"]) fun _ _ _ _ _ _ us hl => match us, hl with | [_], _ => rfl,
    f_Lof := _, fd_Lof := _, F_Lof := fun_mk (st := s_Lof) l_Lof c_Lof k_Lof,
    g_Lof := PySem.W.mg_of X G a_Lof,
    b_Lof := (fun_mk (st := s_Lof) l_Lof c_Lof k_Lof).binds (ps := ["_law_row"]) fun _ _ _ _ _ _ us hl => match us, hl with | [_], _ => rfl,
    f_Ladded := _, fd_Ladded := _, F_Ladded := fun_mk (st := s_Ladded) l_Ladded c_Ladded k_Ladded,
    g_Ladded := PySem.W.mg_of X G a_Ladded,
    b_Ladded := (fun_mk (st := s_Ladded) l_Ladded c_Ladded k_Ladded).binds (ps := ["_law_one", "_law_other", "_law_carry"]) fun _ _ _ _ _ _ us hl => match us, hl with | [_, _, _], _ => rfl,
    f_Ltimes := _, fd_Ltimes := _, F_Ltimes := fun_mk (st := s_Ltimes) l_Ltimes c_Ltimes k_Ltimes,
    g_Ltimes := PySem.W.mg_of X G a_Ltimes,
    b_Ltimes := (fun_mk (st := s_Ltimes) l_Ltimes c_Ltimes k_Ltimes).binds (ps := ["_law_one", "_law_other"]) fun _ _ _ _ _ _ us hl => match us, hl with | [_, _], _ => rfl,
    f_Lsums_right := _, fd_Lsums_right := _, F_Lsums_right := fun_mk (st := s_Lsums_right) l_Lsums_right c_Lsums_right k_Lsums_right,
    g_Lsums_right := PySem.W.mg_of X G a_Lsums_right,
    b_Lsums_right := (fun_mk (st := s_Lsums_right) l_Lsums_right c_Lsums_right k_Lsums_right).binds (ps := ["_law_one", "_law_other"]) fun _ _ _ _ _ _ us hl => match us, hl with | [_, _], _ => rfl,
    f_Lshifts_right := _, fd_Lshifts_right := _, F_Lshifts_right := fun_mk (st := s_Lshifts_right) l_Lshifts_right c_Lshifts_right k_Lshifts_right,
    g_Lshifts_right := PySem.W.mg_of X G a_Lshifts_right,
    b_Lshifts_right := (fun_mk (st := s_Lshifts_right) l_Lshifts_right c_Lshifts_right k_Lshifts_right).binds (ps := ["_law_word_here", "_law_many"]) fun _ _ _ _ _ _ us hl => match us, hl with | [_, _], _ => rfl,
    f_Lbits_right := _, fd_Lbits_right := _, F_Lbits_right := fun_mk (st := s_Lbits_right) l_Lbits_right c_Lbits_right k_Lbits_right,
    g_Lbits_right := PySem.W.mg_of X G a_Lbits_right,
    b_Lbits_right := (fun_mk (st := s_Lbits_right) l_Lbits_right c_Lbits_right k_Lbits_right).binds (ps := ["_law_word_here", "_law_low", "_law_many", "_law_value"]) fun _ _ _ _ _ _ us hl => match us, hl with | [_, _, _, _], _ => rfl,
    f_law := _, fd_law := _, F_law := fun_mk (st := s_law) l_law c_law k_law,
    g_law := PySem.W.mg_of X G a_law,
    b_law := (fun_mk (st := s_law) l_law c_law k_law).binds (ps := ["_law_script"]) fun _ _ _ _ _ _ us hl => match us, hl with | [_], _ => rfl,
    m_abs := PySem.W.mg_none_of X G z_abs,
    m_bool := PySem.W.mg_none_of X G z_bool,
    m_divmod := PySem.W.mg_none_of X G z_divmod,
    m_enumerate := PySem.W.mg_none_of X G z_enumerate,
    m_int := PySem.W.mg_none_of X G z_int,
    m_isinstance := PySem.W.mg_none_of X G z_isinstance,
    m_len := PySem.W.mg_none_of X G z_len,
    m_max := PySem.W.mg_none_of X G z_max,
    m_min := PySem.W.mg_none_of X G z_min,
    m_range := PySem.W.mg_none_of X G z_range,
    m_zip := PySem.W.mg_none_of X G z_zip,
    c__WORD_BITS := ⟨_, PySem.W.mg_of X G x__WORD_BITS⟩,
    c_WORDS := ⟨_, PySem.W.mg_of X G x_WORDS⟩ }
  exact ⟨_, fun s v => .of_eq rfl, fun base _ _ => ok_law (P := l.prog) (w := w) (base := base) T⟩
theorem walk {l : PySem.W.OpenLaw} {q : Program} {loose : List Str} {XP : (Str → Option Value) → Heap → Prop} {YP : World → Heap → Prop} {d : DefRec} {K : Params → PySem.W.Frag} (hn : l.most = some 63) (hdf : d.params.defaults = [])
    (hY : ∀ (w : World) (h : Heap), YP w h → (K w.params).In h)
    (F : ∀ (w : World) (mg : Str → Option Value) (fa : Addr) (h : Heap), (K w.params).In h → h.Ns mainGlobals mg → mg d.name = some (.ref fa) →
      ∃ fd : FuncData, (∀ (s : Shared) (u : Value), BindsTo s fd ⟨[u], []⟩ [("_law_script", u)]) ∧ ∀ base : Heap, (K w.params).In base → base.Ns mainGlobals mg → FnOk l.prog w (K w.params) mg base CX0 9 fa fd ["_law_script"] (sp_law (K w.params))) :
    PySem.W.WalkO q loose XP YP l.row.toRowW d [] (fun f vs => PySem.call f vs) :=
  L2.walk_of (n := 63) (k := 9) (x := "_law_script") (CX := fun _ => CX0) (sp := fun w => sp_law (K w.params)) hn (by decide) hdf ⟨rfl, by decide, by decide⟩ hY F (fun _ _ a ns hl _ hS => ⟨a, ns, rfl, hS, hl, fun _ => rfl⟩) fun _ _ _ _ _ z => z
end K11
open PySem PySem.W PyProof.Rows
set_option maxRecDepth 100000 in
set_option maxHeartbeats 0 in
theorem PySem.Challenge.cw_orderlycore_k11_whole_words_bit_by_bit_holds : PySem.Challenge.rw_orderlycore_k11_whole_words_bit_by_bit.Holds := by
  w_on; o_law; k_head; (case hw => w_witness2)
  k_fill
  refine K11.walk (l := PySem.Challenge.rw_orderlycore_k11_whole_words_bit_by_bit) rfl rfl (fun w h Y => PySem.W.kIn_of Y) ?F
  case F =>
    intro w mg fa h KX G hmg
    refine' K11.all_mk KX G hmg ?a_is_integer ?l_is_integer ?c_is_integer ?k_is_integer ?a_is_between ?l_is_between ?c_is_between ?k_is_between ?a_is_word ?l_is_word ?c_is_word ?k_is_word ?a_need_word ?l_need_word ?c_need_word ?k_need_word ?a_need_words ?l_need_words ?c_need_words ?k_need_words ?a_plus ?l_plus ?c_plus ?k_plus ?a_minus ?l_minus ?c_minus ?k_minus ?a_times ?l_times ?c_times ?k_times ?a_over ?l_over ?c_over ?k_over ?a_both ?l_both ?c_both ?k_both ?a_either ?l_either ?c_either ?k_either ?a_unlike ?l_unlike ?c_unlike ?k_unlike ?a_need_shift ?l_need_shift ?c_need_shift ?k_need_shift ?a_shifted_up ?l_shifted_up ?c_shifted_up ?k_shifted_up ?a_shifted_down ?l_shifted_down ?c_shifted_down ?k_shifted_down ?a_signed ?l_signed ?c_signed ?k_signed ?a_need_bits ?l_need_bits ?c_need_bits ?k_need_bits ?a_bits ?l_bits ?c_bits ?k_bits ?a_with_bits ?l_with_bits ?c_with_bits ?k_with_bits ?a_Lpot ?l_Lpot ?c_Lpot ?k_Lpot ?a_Ldraw ?l_Ldraw ?c_Ldraw ?k_Ldraw ?a_Lpick ?l_Lpick ?c_Lpick ?k_Lpick ?a_Lword ?l_Lword ?c_Lword ?k_Lword ?a_Llist ?l_Llist ?c_Llist ?k_Llist ?a_Lof ?l_Lof ?c_Lof ?k_Lof ?a_Ladded ?l_Ladded ?c_Ladded ?k_Ladded ?a_Ltimes ?l_Ltimes ?c_Ltimes ?k_Ltimes ?a_Lsums_right ?l_Lsums_right ?c_Lsums_right ?k_Lsums_right ?a_Lshifts_right ?l_Lshifts_right ?c_Lshifts_right ?k_Lshifts_right ?a_Lbits_right ?l_Lbits_right ?c_Lbits_right ?k_Lbits_right ?a_law ?l_law ?c_law ?k_law ?z_abs ?z_bool ?z_divmod ?z_enumerate ?z_int ?z_isinstance ?z_len ?z_max ?z_min ?z_range ?z_zip ?x__WORD_BITS ?x_WORDS
    (case a_is_integer => k_is)
    (case l_is_integer => k_is)
    (case c_is_integer => k_is)
    (case k_is_integer => k_is)
    (case a_is_between => k_is)
    (case l_is_between => k_is)
    (case c_is_between => k_is)
    (case k_is_between => k_is)
    (case a_is_word => k_is)
    (case l_is_word => k_is)
    (case c_is_word => k_is)
    (case k_is_word => k_is)
    (case a_need_word => k_is)
    (case l_need_word => k_is)
    (case c_need_word => k_is)
    (case k_need_word => k_is)
    (case a_need_words => k_is)
    (case l_need_words => k_is)
    (case c_need_words => k_is)
    (case k_need_words => k_is)
    (case a_plus => k_is)
    (case l_plus => k_is)
    (case c_plus => k_is)
    (case k_plus => k_is)
    (case a_minus => k_is)
    (case l_minus => k_is)
    (case c_minus => k_is)
    (case k_minus => k_is)
    (case a_times => k_is)
    (case l_times => k_is)
    (case c_times => k_is)
    (case k_times => k_is)
    (case a_over => k_is)
    (case l_over => k_is)
    (case c_over => k_is)
    (case k_over => k_is)
    (case a_both => k_is)
    (case l_both => k_is)
    (case c_both => k_is)
    (case k_both => k_is)
    (case a_either => k_is)
    (case l_either => k_is)
    (case c_either => k_is)
    (case k_either => k_is)
    (case a_unlike => k_is)
    (case l_unlike => k_is)
    (case c_unlike => k_is)
    (case k_unlike => k_is)
    (case a_need_shift => k_is)
    (case l_need_shift => k_is)
    (case c_need_shift => k_is)
    (case k_need_shift => k_is)
    (case a_shifted_up => k_is)
    (case l_shifted_up => k_is)
    (case c_shifted_up => k_is)
    (case k_shifted_up => k_is)
    (case a_shifted_down => k_is)
    (case l_shifted_down => k_is)
    (case c_shifted_down => k_is)
    (case k_shifted_down => k_is)
    (case a_signed => k_is)
    (case l_signed => k_is)
    (case c_signed => k_is)
    (case k_signed => k_is)
    (case a_need_bits => k_is)
    (case l_need_bits => k_is)
    (case c_need_bits => k_is)
    (case k_need_bits => k_is)
    (case a_bits => k_is)
    (case l_bits => k_is)
    (case c_bits => k_is)
    (case k_bits => k_is)
    (case a_with_bits => k_is)
    (case l_with_bits => k_is)
    (case c_with_bits => k_is)
    (case k_with_bits => k_is)
    (case a_Lpot => k_is)
    (case l_Lpot => k_is)
    (case c_Lpot => k_is)
    (case k_Lpot => k_is)
    (case a_Ldraw => k_is)
    (case l_Ldraw => k_is)
    (case c_Ldraw => k_is)
    (case k_Ldraw => k_is)
    (case a_Lpick => k_is)
    (case l_Lpick => k_is)
    (case c_Lpick => k_is)
    (case k_Lpick => k_is)
    (case a_Lword => k_is)
    (case l_Lword => k_is)
    (case c_Lword => k_is)
    (case k_Lword => k_is)
    (case a_Llist => k_is)
    (case l_Llist => k_is)
    (case c_Llist => k_is)
    (case k_Llist => k_is)
    (case a_Lof => k_is)
    (case l_Lof => k_is)
    (case c_Lof => k_is)
    (case k_Lof => k_is)
    (case a_Ladded => k_is)
    (case l_Ladded => k_is)
    (case c_Ladded => k_is)
    (case k_Ladded => k_is)
    (case a_Ltimes => k_is)
    (case l_Ltimes => k_is)
    (case c_Ltimes => k_is)
    (case k_Ltimes => k_is)
    (case a_Lsums_right => k_is)
    (case l_Lsums_right => k_is)
    (case c_Lsums_right => k_is)
    (case k_Lsums_right => k_is)
    (case a_Lshifts_right => k_is)
    (case l_Lshifts_right => k_is)
    (case c_Lshifts_right => k_is)
    (case k_Lshifts_right => k_is)
    (case a_Lbits_right => k_is)
    (case l_Lbits_right => k_is)
    (case c_Lbits_right => k_is)
    (case k_Lbits_right => k_is)
    (case a_law => k_is)
    (case l_law => k_is)
    (case c_law => k_is)
    (case k_law => k_is)
    (case z_abs => k_is)
    (case z_bool => k_is)
    (case z_divmod => k_is)
    (case z_enumerate => k_is)
    (case z_int => k_is)
    (case z_isinstance => k_is)
    (case z_len => k_is)
    (case z_max => k_is)
    (case z_min => k_is)
    (case z_range => k_is)
    (case z_zip => k_is)
    (case x__WORD_BITS => k_is)
    (case x_WORDS => k_is)

