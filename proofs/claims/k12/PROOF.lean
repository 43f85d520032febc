import PyProof.Rows.All
import Wide.All
import OpenK.AllK
import Wide.FinOn
import HandS.ForMost
import HandS.IsInst
import HandS.Wide
import HandS.Style
import HandS.Walk
import HandS.Zip
import HandS.Flow
import HandS.ForExc
import HandS.ExcInit
import HandS.Property
import HandS.TupSets
import PySem.Challenge.RW_orderlycore_k12_whole_whims_taken
set_option Elab.async false
set_option linter.all false
set_option maxRecDepth 100000
set_option maxHeartbeats 4000000
namespace Hx
open PySem PySem.Spec PyProof.Rows L2
/-! ### own rules -/
section
variable {X : Cx} {CX : CXT} {k : Nat} {f : Addr} {fd : FuncData} {ps ks : List Str} {sp : Sp} {E : XK} {x : Str} {p pos : Pos} {kws : List Keyword} {tk : TA} {g : List Value → List Value → List Value} {gV : List V → List V → List V}
theorem pe_callKA (F : FnOk X.prog X.w X.K X.mg X.base CX k f fd ps sp) (hr : Room k X.A) (hg : Gl X x) (hm : X.mg x = some (.ref f)) (hk : PySem.W.keepIn X.K (.ref f) = true) (hb : KBinds X.K fd ps ks g gV) (hx : Passes CX X E)
    (hkw : PK X kws tk) (hall : (backToKw pos (keywordEach kws X.env)).all (·.1.isSome) = true := by rfl) (hks : (backToKw pos (keywordEach kws X.env)).filterMap (·.1) = ks := by rfl)
    (hdb : (x == ("__debug__" : Str)) = false := by decide)
    (hpl : ((backTo pos (starEach [] X.env)).any (·.1) || (backToKw pos (keywordEach kws X.env)).any (·.1.isNone)) = false := by rfl) :
    PE X (.Call (.Name x p) [] kws pos) (tCallK sp gV E tNil tk) := by
  refine ⟨fun pins s σ H Q I h => ?_⟩
  refine wpAny_Call_Name_kw (ld_glob I hg hm ?_ hdb)
  refine PySem.W.callWith_KW0 (h₀ := X.base) I.ok.mod.kin hk hall ?_ hpl
  refine thn (hkw.run pos pins s σ H _ I h) fun ws s2 ⟨zs, H2, I2, rz, q2⟩ => ⟨I2.kIn, ?_⟩
  rw [hks]
  exact run_fnk F hr hb hx I2 .nil rz q2
/-- all by keywords, in the parameters' own order -/
def kwG {α : Type} (us ws : List α) : List α := match us with | [] => ws | _ => []
theorem kw_binds {K : PySem.W.Frag} {x qual : Str} {st : Stmt} {f : Addr} {fd : FuncData} {ps : List Str} (F : Fun K x qual st f fd) (h0 : 0 < ps.length)
    (h : ∀ (kV doc pm : Value) (an : Option Addr) (cdv ct : Value) (us : List Value), us.length = ps.length → bindArgs (PySem.W.fnOf x qual (defArgs st) (defBody st) (defScope st) .none kV doc pm an cdv ct) ⟨[], ps.zip us⟩ = pure (ps.zip us)) : KBinds K fd ps ps kwG kwG := by
  obtain ⟨oc, od, kV, doc, pm, an, cdv, ct, osl, rfl, lk, hcd⟩ := F.ex
  refine ⟨fun s us ws _ hl => ?_, fun {vs us zs ws} r1 r2 => ?_⟩
  · cases us with
    | nil => exact .of_eq (h kV doc pm an cdv ct ws hl)
    | cons a t => exact absurd hl (by simp [kwG]; omega)
  · cases r1 with
    | nil => exact r2
    | cons a t => exact .nil
theorem pg_pair {i j : Nat} {x y : Str} {p1 p2 : Pos} {kk : Nat} (hc : X.calm = true) (hN : X.N.Nodup) (hi : X.N[i]? = some x) (hj : X.N[j]? = some y) (hx : Loc X.env.scope x) (hy : Loc X.env.scope y)
    (hf : X.fn x = true ∨ X.env.scope.names.lookup x = some .local := by first | exact .inl rfl | exact .inr rfl | assumption) (hf2 : X.fn y = true ∨ X.env.scope.names.lookup y = some .local := by first | exact .inl rfl | exact .inr rfl | assumption)
    (hn : (assignEach [Expr.Name x p1, .Name y p2] X.env).length = 2 := by rfl) (hst : (assignEach [Expr.Name x p1, .Name y p2] X.env).findIdx? (·.1) = none := by rfl)
    (hs : (assignEach [Expr.Name x p1, .Name y p2] X.env).map (·.2) = assign (.Name x p1) X.env :: (assignEach [Expr.Name y p2] X.env).map (·.2) := by rfl)
    (hs2 : (assignEach [Expr.Name y p2] X.env).map (·.2) = assign (.Name y p2) X.env :: (assignEach [] X.env).map (·.2) := by rfl) :
    PG X (.Tuple [.Name x p1, .Name y p2] kk pos) (gTup X.K 2 (gCons (gName i) (gCons (gName j) gNil))) :=
  pg_tup hc (pgs_cons (pg_name hN hi hx hf) (pgs_cons (pg_name hN hj hy hf2) pgs_nil hs2) hs) hn hst
theorem pe_gint {i : Int} (hg : Gl X x) (hm : ∃ t, X.mg x = some (.int i t)) (hd : (x == ("__debug__" : Str)) = false := by decide) : PE X (.Name x pos) (tC (.int i)) := by
  obtain ⟨t, hm⟩ := hm
  exact pe_glob hg hm ⟨_, rfl⟩ hd
end
theorem call_int1i {X : Cx} : CallR X (.type "int") (fun xs H Q => ∃ i, xs = [.int i] ∧ Q (.int i) H) := fun pins s σ H xs us Q I r h => call_int1 pins s σ H xs us Q I r (.inl h)
theorem call_int1b {X : Cx} : CallR X (.type "int") (fun xs H Q => ∃ k, xs = [.bl k] ∧ Q (.int (if k then 1 else 0)) H) := fun pins s σ H xs us Q I r h => call_int1 pins s σ H xs us Q I r (.inr h)
theorem call_len_list {X : Cx} : CallR X (.builtin "len") (fun xs H Q => ∃ p ys, xs = [.ref p] ∧ SqL X.K H p ys ∧ Q (.int ys.length) H) := fun pins s σ H xs us Q I r ⟨p, ys, e, h, q⟩ => call_len_seq pins s σ H xs us Q I r ⟨p, ys, e, .inl h, q⟩
/-- a goal at which the walker of readings stops -/
structure Stop (p : Prop) : Prop where
  h : p
theorem stop_eq {p : Prop} : Stop p = p := propext ⟨fun q => q.h, fun q => ⟨q⟩⟩
def tForS (wi : TI) (g : TG) (tb : TS) : TS := fun D σ H => wi σ H fun J H1 => Stop (∃ W : Nat → Nat → L2.St → Hp → Prop, (∃ m, W 0 m σ H1) ∧ ∀ i m σ H, W i m σ H →
  (J.stop i H ∧ D.nx σ H) ∨ (J.go i H ∧ ∃ N : L2.St → Hp → Prop, (∀ σ' H', N σ' H' → ∃ m', m' < m ∧ W (i + 1) m' σ' H') ∧ ∀ x H', J.yld i H x H' → g x σ H' fun σ2 H2 => tb { D with nx := N, ct := N, bk := D.nx } σ2 H2))
theorem tForS_eq (wi : TI) (g : TG) (tb : TS) : tForS wi g tb = tFor wi g tb := by
  funext D σ H
  unfold tForS tFor
  simp only [stop_eq]
theorem ps_forS {X : Cx} {tg iter : Expr} {body : List Stmt} {wi : TI} {g : TG} {tb : TS} {pos : Pos} (hp : PassesOwn (model X.prog X.w) X.A X.env X.xe) (hc : X.calm = true) (hi : PI X tg iter wi) (hg : PG X tg g) (hb : PSs X body tb)
    (hs : ∀ x, foldedSetIterable iter X.env x = pure x := by intro _; rfl) : PS X (.For tg iter body [] pos) (tForS wi g tb) := by
  rw [tForS_eq]
  exact ps_for hp hc hi hg hb hs
/-! ### heaps -/
theorem same_upd {H : Hp} {p : Addr} {o : HO} (h : H p = none) : Same H (upd H p o) := fun b u e => by rw [upd_ne (ne_of_none e h)]; exact e
theorem Same.upd {H H1 : Hp} {p : Addr} {o : HO} (s : Same H H1) (h : H1 p = none) : Same H (L2.upd H1 p o) := L2.Same.trans s (same_upd h)
theorem Same.free' {H H1 : Hp} (s : Same H H1) {p : Addr} (h : H1 p = none) : H p = none := L2.Same.free s h
/-- all but a is as it was -/
def But (a : Addr) (H H' : Hp) : Prop := ∀ b o, b ≠ a → H b = some o → H' b = some o
theorem But.refl {a : Addr} (H : Hp) : But a H H := fun _ _ _ h => h
theorem But.trans {a : Addr} {H H1 H2 : Hp} (x : But a H H1) (y : But a H1 H2) : But a H H2 := fun b o n h => y b o n (x b o n h)
theorem But.same {a : Addr} {H H1 : Hp} (x : Same H H1) : But a H H1 := fun b o _ h => x b o h
theorem But.set {a : Addr} {H : Hp} {o : HO} : But a H (upd H a o) := fun b u n h => by rw [upd_ne n]; exact h
theorem But.new {a : Addr} {H H1 : Hp} {p : Addr} {o : HO} (x : But a H H1) (h : H1 p = none) : But a H (upd H1 p o) := x.trans (But.same (same_upd h))
theorem size_le {n : Nat} (h : n ≤ 10000) : n ≤ sizeLine := by rw [sizeLine_eq]; omega
theorem size_lt {n : Nat} (h : n ≤ 10000) : n < sizeLine := by rw [sizeLine_eq]; omega
theorem iteD {c A B : Prop} [Decidable c] (h1 : c → A) (h2 : ¬ c → B) : if decide c = true then A else B := by
  by_cases h : c
  · rw [decide_eq_true h]; exact iteT (h1 h)
  · rw [decide_eq_false h]; exact iteF (h2 h)
theorem iteN {c A B : Prop} [Decidable c] (h1 : ¬ c → A) (h2 : c → B) : if (!decide c) = true then A else B := by
  by_cases h : c
  · rw [decide_eq_true h]; exact iteF (h2 h)
  · rw [decide_eq_false h]; exact iteT (h1 h)
theorem qbl {Q : VK} {b c : Bool} {H : Hp} (k : Q (.bl b) H) (e : c = b) : Q (.bl c) H := e ▸ k
theorem qint {Q : VK} {i j : Int} {H : Hp} (k : Q (.int i) H) (e : j = i) : Q (.int j) H := e ▸ k
theorem same_set {H H1 : Hp} {p : Addr} {o : HO} (s : Same H H1) (n : H p = none) : Same H (upd H1 p o) := fun b u e => by rw [upd_ne (ne_of_none e n)]; exact s b u e
theorem old_upd {H : Hp} {p a : Addr} {o u : HO} (n : H p = none) (h : H a = some u) : upd H p o a = some u := same_upd n _ _ h
theorem SqL.new {K : PySem.W.Frag} {H : Hp} {p a : Addr} {o : HO} {xs : List V} (n : H p = none) (h : SqL K H a xs) : SqL K (upd H p o) a xs := L2.Same.seq (same_upd n) h
theorem tyl_new {K : PySem.W.Frag} {H : Hp} {p a : Addr} {o : HO} {xs : List V} (h : H a = some (.lst xs)) (n : H p = none) : tyV K "list" (.ref a) (upd H p o) := Or.inl ⟨rfl, xs, SqL.of (old_upd n h)⟩
theorem tyl_of {K : PySem.W.Frag} {H : Hp} {a : Addr} {xs : List V} (h : H a = some (.lst xs)) : tyV K "list" (.ref a) H := Or.inl ⟨rfl, xs, SqL.of h⟩
theorem same_at {H H' : Hp} {a : Addr} {u : HO} (s : Same H H') (h : H a = some u) : H' a = some u := s _ _ h
theorem same_trans' {H H1 H2 : Hp} (b : Same H1 H2) (a : Same H H1) : Same H H2 := L2.Same.trans a b
/-! ### comprehensions that keep what stood -/
theorem lc_mapS {K : PySem.W.Frag} {a : Addr} {xs : List V} {g : TG} {te : TE} {vs : List Nat} {σ : L2.St} {H1 : Hp} {D : Addr} {Qd : Hp → Prop} (ys : List V) (ha : SqL K H1 a xs) (hD : H1 D = none) (hl : xs.length = ys.length) (hz : xs.length ≤ 10000)
    (hs : ∀ (i : Nat) (x y : V) (H' : Hp) (Q : VK), xs[i]? = some x → ys[i]? = some y → Same H1 H' → (∀ H'', Same H' H'' → Q y H'') → g x (wipe σ vs) H' fun σ2 H2 => wipe σ2 vs = wipe σ vs ∧ te σ2 H2 Q)
    (hd : ∀ H', Same H1 H' → H' D = some (.lst ys) → Qd H') :
    ∃ W : Nat → Nat → Hp → Prop, (∃ m, W 0 m (upd H1 D (.lst []))) ∧ ∀ i m H, W i m H →
      ((Itl K a).stop i H ∧ Qd H) ∨ ((Itl K a).go i H ∧ ∃ Nx : Hp → Prop, (∀ H', Nx H' → ∃ m', m' < m ∧ W (i + 1) m' H') ∧ ∀ x H', (Itl K a).yld i H x H' → g x (wipe σ vs) H' fun σ2 H2 => wipe σ2 vs = wipe σ vs ∧ tYes σ2 H2 fun b H3 =>
        if b = true then te σ2 H3 fun y H4 => ∃ acc, H4 D = some (.lst acc) ∧ acc.length < sizeLine ∧ Nx (upd H4 D (.lst (acc ++ [y]))) else Nx H3) := by
  refine lc_list (xs := xs) (fun i H => Same H1 H ∧ H D = some (.lst (ys.take i))) ⟨same_upd hD, upd_same⟩ (fun i H _ h => L2.Same.seq h.1 ha) (fun i x H hx h => ?_) (fun H h => hd H h.1 (by rw [h.2, List.take_of_length_le (by omega)]))
  have hi : i < ys.length := by have := (List.getElem?_eq_some_iff.mp hx).1; omega
  refine hs i x ys[i] H _ hx (List.getElem?_eq_getElem hi) h.1 (fun H'' s => ?_)
  refine ⟨ys.take i, s _ _ h.2, size_lt (by simp; omega), same_set (L2.Same.trans h.1 s) hD, ?_⟩
  rw [upd_same, List.take_add_one, List.getElem?_eq_getElem hi]; rfl
theorem lc_mapZ {K : PySem.W.Frag} {a b : Addr} {xs zs : List V} {g : TG} {te : TE} {vs : List Nat} {σ : L2.St} {H1 : Hp} {D : Addr} {Qd : Hp → Prop} (ys : List V) (ha : SqL K H1 a xs) (hb : SqL K H1 b zs) (hD : H1 D = none) (hl : xs.length = ys.length) (hl2 : xs.length = zs.length) (hz : xs.length ≤ 10000)
    (hs : ∀ (i : Nat) (x z y : V) (T : Addr) (H' : Hp) (Q : VK), xs[i]? = some x → zs[i]? = some z → ys[i]? = some y → Same H1 H' → H' T = none → (∀ H'', Same (upd H' T (.tup [x, z])) H'' → Q y H'') → g (.ref T) (wipe σ vs) (upd H' T (.tup [x, z])) fun σ2 H2 => wipe σ2 vs = wipe σ vs ∧ te σ2 H2 Q)
    (hd : ∀ H', Same H1 H' → H' D = some (.lst ys) → Qd H') :
    ∃ W : Nat → Nat → Hp → Prop, (∃ m, W 0 m (upd H1 D (.lst []))) ∧ ∀ i m H, W i m H →
      ((Itz K a b).stop i H ∧ Qd H) ∨ ((Itz K a b).go i H ∧ ∃ Nx : Hp → Prop, (∀ H', Nx H' → ∃ m', m' < m ∧ W (i + 1) m' H') ∧ ∀ x H', (Itz K a b).yld i H x H' → g x (wipe σ vs) H' fun σ2 H2 => wipe σ2 vs = wipe σ vs ∧ tYes σ2 H2 fun b H3 =>
        if b = true then te σ2 H3 fun y H4 => ∃ acc, H4 D = some (.lst acc) ∧ acc.length < sizeLine ∧ Nx (upd H4 D (.lst (acc ++ [y]))) else Nx H3) := by
  refine lc_it (walk_zip (xs := xs) (ys := zs) (n := xs.length) (by omega)) (fun i H => Same H1 H ∧ H D = some (.lst (ys.take i))) ⟨same_upd hD, upd_same⟩ (fun i H _ h => ⟨L2.Same.seq h.1 ha, L2.Same.seq h.1 hb⟩) (fun i x H H' hi h y => ?_) (fun H h => hd H h.1 (by rw [h.2, List.take_of_length_le (by omega)]))
  obtain ⟨T, x', z', rfl, hT, rfl, hx, hz'⟩ := y
  have hi' : i < ys.length := by omega
  refine hs i x' z' ys[i] T H _ hx hz' (List.getElem?_eq_getElem hi') h.1 hT (fun H'' s => ?_)
  refine ⟨ys.take i, s _ _ (old_upd hT h.2), size_lt (by simp; omega), same_set (L2.Same.trans (Same.upd h.1 hT) s) hD, ?_⟩
  rw [upd_same, List.take_add_one, List.getElem?_eq_getElem hi']; rfl
/-! ### two lists of the same ints -/
theorem dp_ints {K : PySem.W.Frag} {H : Hp} : ∀ ns : List Int, DpAll K H (ns.map V.int) (ns.map PyData.int)
  | [] => .nil
  | n :: r => .cons (.int n) (dp_ints r)
theorem sh_ints (ns : List Int) : SeqAt.shaped (.list (ns.map PyData.int)) = true := PySem.W.shaped_ints ns
theorem eqv_ints (ns : List Int) : PyData.eqv (.list (ns.map PyData.int)) (.list (ns.map PyData.int)) = true := SeqAt.eqv_refl _ (SeqAt.canLay_of_shaped (sh_ints ns))
theorem op_eqLI {X : Cx} (hu : X.A.units + 64 < cLine) : OpR X (compareOp .Eq) (fun x y H Q => ∃ (p q : Addr) (ns : List Int), x = .ref p ∧ y = .ref q ∧ SqL X.K H p (ns.map V.int) ∧ SqL X.K H q (ns.map V.int) ∧ Q (.bl true) H) := by
  intro pins s σ H x y v u Q I rx ry ⟨p, q, ns, e1, e2, h1, h2, k⟩
  refine op_eqD hu pins s σ H x y v u Q I rx ry ⟨.list (ns.map PyData.int), .list (ns.map PyData.int), ?_, ?_, ?_, ?_, ?_⟩
  · rw [e1]; exact .lst h1 (dp_ints ns)
  · rw [e2]; exact .lst h2 (dp_ints ns)
  · exact sh_ints ns
  · exact sh_ints ns
  · rw [eqv_ints]; exact k
theorem op_neLI {X : Cx} (hu : X.A.units + 64 < cLine) : OpR X (compareOp .NotEq) (fun x y H Q => ∃ (p q : Addr) (ns : List Int), x = .ref p ∧ y = .ref q ∧ SqL X.K H p (ns.map V.int) ∧ SqL X.K H q (ns.map V.int) ∧ Q (.bl false) H) := by
  intro pins s σ H x y v u Q I rx ry ⟨p, q, ns, e1, e2, h1, h2, k⟩
  refine op_neD hu pins s σ H x y v u Q I rx ry ⟨.list (ns.map PyData.int), .list (ns.map PyData.int), ?_, ?_, ?_, ?_, ?_⟩
  · rw [e1]; exact .lst h1 (dp_ints ns)
  · rw [e2]; exact .lst h2 (dp_ints ns)
  · exact sh_ints ns
  · exact sh_ints ns
  · rw [eqv_ints]; exact k
/-! ### the pot -/
structure Pot (H : Hp) (a : Addr) : Prop where
  ex : ∃ x y : Int, H a = some (.lst [.int x, .int y]) ∧ 0 ≤ x ∧ 0 ≤ y ∧ y < 4294967296
theorem Pot.same {H H' : Hp} {a : Addr} (s : Same H H') (h : Pot H a) : Pot H' a := by
  obtain ⟨x, y, e, r⟩ := h
  exact ⟨x, y, s _ _ e, r⟩
theorem Pot.new {H : Hp} {a p : Addr} {o : HO} (h : Pot H a) (n : H p = none) : Pot (upd H p o) a := h.same (same_upd n)
theorem Pot.ne {H : Hp} {a p : Addr} (h : Pot H a) (n : H p = none) : p ≠ a := by
  obtain ⟨x, y, e, r⟩ := h
  exact fun z => by rw [z, e] at n; cases n
theorem mulw {i j : Int} {a b : Nat} (ha : i.natAbs < 2 ^ a) (hb : j.natAbs < 2 ^ b) (h0 : 0 < a := by decide) (h1 : 0 < b := by decide) (h : a + b ≤ 1000000 := by decide) : CMulW i j := wide_mul ha hb h0 h1 h
theorem mulw64 {i j : Int} (ha : i.natAbs < 18446744073709551616) (hb : j.natAbs < 18446744073709551616) : CMulW i j := wide_mul (a := 64) (b := 64) ha hb (by decide) (by decide) (by decide)
theorem pick_at {xs : List V} {d : Int} (h0 : 0 ≤ d) (h1 : d < xs.length) : ∃ v, atI xs d = some v ∧ v ∈ xs := by
  have hd : d.toNat < xs.length := by omega
  exact ⟨xs[d.toNat], at_of (j := d.toNat) (by omega) (List.getElem?_eq_getElem hd), List.getElem_mem hd⟩
theorem take_fold {α β : Type} {f : β → α → β} {z : β} {l : List α} {i : Nat} {x : α} (h : l[i]? = some x) : (l.take (i + 1)).foldl f z = f ((l.take i).foldl f z) x := by
  rw [List.take_add_one, h, Option.toList_some, List.foldl_append]; rfl
theorem int_get {ns : List Int} {i : Nat} {x : V} (h : (ns.map V.int)[i]? = some x) : ∃ z, x = .int z ∧ ns[i]? = some z := by
  rw [List.getElem?_map] at h
  obtain ⟨z, hz, e⟩ := Option.map_eq_some_iff.mp h
  exact ⟨z, e.symm, hz⟩
/-- called with the pot and how many: a number below that, and the pot is still one -/
def spDraw : Sp := fun vs H Q _ => ∃ (a : Addr) (n : Int), vs = [.ref a, .int n] ∧ Pot H a ∧ 0 < n ∧ n < 1073741824 ∧
  ∀ (d : Int) (H' : Hp), 0 ≤ d → d < n → Pot H' a → But a H H' → Q (.int d) H'
end Hx

set_option Elab.async false
set_option linter.all false
set_option maxRecDepth 100000
set_option maxHeartbeats 4000000
namespace Hx
open PySem PySem.Spec PyProof.Rows L2
/-! ### own rules for objects and errors -/
def kwM {α : Type} (us ws : List α) : List α := match us with | [x] => x :: ws | _ => []
theorem kw_bindsM {K : PySem.W.Frag} {x qual : Str} {st : Stmt} {f : Addr} {fd : FuncData} {ps : List Str} (F : Fun K x qual st f fd) (h0 : 0 < ps.length)
    (h : ∀ (kV doc pm : Value) (an : Option Addr) (cdv ct : Value) (u : Value) (us : List Value), us.length = ps.tail.length → bindArgs (PySem.W.fnOf x qual (defArgs st) (defBody st) (defScope st) .none kV doc pm an cdv ct) ⟨[u], ps.tail.zip us⟩ = pure (ps.zip (u :: us))) : KBinds K fd ps ps.tail kwM kwM := by
  obtain ⟨oc, od, kV, doc, pm, an, cdv, ct, osl, rfl, lk, hcd⟩ := F.ex
  refine ⟨fun s us ws _ hl => ?_, fun {vs us zs ws} r1 r2 => ?_⟩
  · match us, hl with
    | [], hl => exact absurd hl (by simp [kwM]; omega)
    | [u], hl => exact .of_eq (h kV doc pm an cdv ct u ws (by simp [kwM] at hl ⊢; omega))
    | _ :: _ :: _, hl => exact absurd hl (by simp [kwM]; omega)
  · cases r1 with
    | nil => exact .nil
    | cons a t =>
      cases t with
      | nil => exact .cons a r2
      | cons b t => exact .nil
section
variable {X : Cx} {CX : CXT} {k : Nat} {f C : Addr} {fd : FuncData} {ps ks : List Str} {sp : Sp} {E : L2.St → XK} {E1 : XK} {x m : Str} {p pos apos : Pos} {e o : Expr} {es : List Expr} {ta : TE} {t tk : TA} {kws : List Keyword} {g : List Value → List Value → List Value} {gV : List V → List V → List V}
def tMethA (C : Addr) (m : Str) (sp : Sp) (E : L2.St → XK) (ta : TE) (t : TA) : TE := fun σ H Q => ta σ H fun x H1 => ∃ a dx fs, x = .ref a ∧ H1 a = some (.ins C dx fs) ∧ fs.lookup m = none ∧ t σ H1 fun vs H2 => sp (x :: vs) H2 Q (E σ)
/-- o.m(e, ..) that may raise, within a try -/
theorem pe_methA {E : L2.St → XK} {pl : Sem Bool} (he : PE X o ta) (c : Cls X.K C) (hm : Meth X.K C m f) (F : FnOk X.prog X.w X.K X.mg X.base CX k f fd ps sp) (hr : Room k X.A) (hb : Binds X.K fd ps []) (hx : ∀ σ, PassesAt CX X σ (E σ)) (ha : PA X (e :: es) t)
    (hst : starEach (e :: es) X.env = (false, eval e X.env) :: starEach es X.env := by rfl) (hpl : (backTo pos (starEach es X.env)).any (·.1) = false := by rfl)
    (ht : eval (.Call (.Attribute o m apos) (e :: es) [] pos) X.env = (do
      let ov ← eval o X.env
      standAt apos.atName
      let (f, first) ← holding [ov] (getMethod ov m pl)
      callWith pos f first (backTo pos (starEach (e :: es) X.env)) (backToKw pos (keywordEach [] X.env))) := by rfl) :
    PE X (.Call (.Attribute o m apos) (e :: es) [] pos) (tMethA C m sp E ta t) := by
  refine ⟨fun pins s σ H Q I h => ?_⟩
  refine PySem.W.methodCall_KW (pl := pl) (thn (he.run pins s σ H _ I h) fun u s1 ⟨x, H1, I1, rx, a, dx, fs, ex, ea, l, q⟩ => ?_) ht
  subst ex
  obtain rfl : u = Value.ref a := rx
  refine getmeth_ok I1 ea c hm l ?_
  refine PySem.W.callWith_K (first := [.ref a]) (h₀ := X.base) I.ok.mod.kin hm.kp (thn (ha.run pos pins s1 σ H1 _ I1 q) fun us s2 ⟨vs, H2, I2, r, q2⟩ => ⟨I2.kIn, ?_⟩) hst hpl
  exact run_fnS (us := .ref a :: us) (vs := .ref a :: vs) F hr hb (hx σ) I2 (.cons rfl r) q2
def tMethK (C : Addr) (m : Str) (sp : Sp) (gV : List V → List V → List V) (E : XK) (ta : TE) (tk : TA) : TE := fun σ H Q => ta σ H fun x H1 => ∃ a dx fs, x = .ref a ∧ H1 a = some (.ins C dx fs) ∧ fs.lookup m = none ∧ tk σ H1 fun zs H2 => sp (gV [x] zs) H2 Q E
/-- o.m(k=e, ..) -/
theorem pe_methKA {pl : Sem Bool} (he : PE X o ta) (c : Cls X.K C) (hm : Meth X.K C m f) (F : FnOk X.prog X.w X.K X.mg X.base CX k f fd ps sp) (hr : Room k X.A) (hb : KBinds X.K fd ps ks g gV) (hx : Passes CX X E1)
    (hkw : PK X kws tk) (hall : (backToKw pos (keywordEach kws X.env)).all (·.1.isSome) = true := by rfl) (hks : (backToKw pos (keywordEach kws X.env)).filterMap (·.1) = ks := by rfl)
    (hpl : ((backTo pos (starEach [] X.env)).any (·.1) || (backToKw pos (keywordEach kws X.env)).any (·.1.isNone)) = false := by rfl)
    (ht : eval (.Call (.Attribute o m apos) [] kws pos) X.env = (do
      let ov ← eval o X.env
      standAt apos.atName
      let (f, first) ← holding [ov] (getMethod ov m pl)
      callWith pos f first (backTo pos (starEach [] X.env)) (backToKw pos (keywordEach kws X.env))) := by rfl) :
    PE X (.Call (.Attribute o m apos) [] kws pos) (tMethK C m sp gV E1 ta tk) := by
  refine ⟨fun pins s σ H Q I h => ?_⟩
  refine PySem.W.methodCall_KW (pl := pl) (thn (he.run pins s σ H _ I h) fun u s1 ⟨x, H1, I1, rx, a, dx, fs, ex, ea, l, q⟩ => ?_) ht
  subst ex
  obtain rfl : u = Value.ref a := rx
  refine getmeth_ok I1 ea c hm l ?_
  refine PySem.W.callWith_KW0 (first := [.ref a]) (h₀ := X.base) I.ok.mod.kin hm.kp hall ?_ hpl
  refine thn (hkw.run pos pins s1 σ H1 _ I1 q) fun ws s2 ⟨zs, H2, I2, rz, q2⟩ => ⟨I2.kIn, ?_⟩
  rw [hks]
  exact run_fnk (us := [.ref a]) (vs := [.ref a]) F hr hb hx I2 (.cons rfl .nil) rz q2
theorem PI.or {tg iter : Expr} {w1 w2 : TI} (h1 : PI X tg iter w1) (h2 : PI X tg iter w2) : PI X tg iter (fun σ H R => w1 σ H R ∨ w2 σ H R) := ⟨fun pins s σ H R I h => h.elim (h1.run pins s σ H R I) (h2.run pins s σ H R I)⟩
end
theorem exm_self {K : PySem.W.Frag} {S : Addr} (h1 : PySem.W.subIn K (.ref S) (.type "BaseException") = some true) (h2 : PySem.W.isClsIn K S = true) (h3 : PySem.W.typeIn K (.ref S) = some (.type "type")) (h4 : PySem.W.subIn K (.ref S) (.ref S) = some true) :
    PySem.W.exmOne K (.ref S) (.ref S) = some true := by
  have e1 : (PySem.W.subIn K (.ref S) (.type "BaseException") == some true) = true := by rw [h1] <;> rfl
  have e2 : ((PySem.W.clsIn K S).isSome && PySem.W.typeIn K (.ref S) == some (.type "type")) = true := by
    have h2' : (PySem.W.clsIn K S).isSome = true := h2
    rw [h2', h3] <;> rfl
  show (if (PySem.W.subIn K (.ref S) (.type "BaseException") == some true) = true then (if ((PySem.W.clsIn K S).isSome && PySem.W.typeIn K (.ref S) == some (.type "type")) = true then PySem.W.subIn K (.ref S) (.ref S) else none) else none) = some true
  rw [if_pos e1, if_pos e2]
  exact h4
def tStop (t : TS) : TS := fun D σ H => t { D with nx := fun σ H => Stop (D.nx σ H) } σ H
theorem ps_stop {X : Cx} {st : Stmt} {t : TS} (h : PS X st t) : PS X st (tStop t) := by
  have e : tStop t = t := by
    funext D σ H
    unfold tStop
    simp only [stop_eq]
  rw [e]
  exact h
theorem lc_mapT {K : PySem.W.Frag} {a : Addr} {xs : List V} {g : TG} {te : TE} {vs : List Nat} {σ : L2.St} {H1 : Hp} {D : Addr} {Qd : Hp → Prop} (ys : List V) (ha : SqT K H1 a xs) (hD : H1 D = none) (hl : xs.length = ys.length) (hz : xs.length ≤ 10000)
    (hs : ∀ (i : Nat) (x y : V) (H' : Hp) (Q : VK), xs[i]? = some x → ys[i]? = some y → Same H1 H' → (∀ H'', Same H' H'' → Q y H'') → g x (wipe σ vs) H' fun σ2 H2 => wipe σ2 vs = wipe σ vs ∧ te σ2 H2 Q)
    (hd : ∀ H', Same H1 H' → H' D = some (.lst ys) → Qd H') :
    ∃ W : Nat → Nat → Hp → Prop, (∃ m, W 0 m (upd H1 D (.lst []))) ∧ ∀ i m H, W i m H →
      ((Itt K a).stop i H ∧ Qd H) ∨ ((Itt K a).go i H ∧ ∃ Nx : Hp → Prop, (∀ H', Nx H' → ∃ m', m' < m ∧ W (i + 1) m' H') ∧ ∀ x H', (Itt K a).yld i H x H' → g x (wipe σ vs) H' fun σ2 H2 => wipe σ2 vs = wipe σ vs ∧ tYes σ2 H2 fun b H3 =>
        if b = true then te σ2 H3 fun y H4 => ∃ acc, H4 D = some (.lst acc) ∧ acc.length < sizeLine ∧ Nx (upd H4 D (.lst (acc ++ [y]))) else Nx H3) := by
  refine lc_tup (xs := xs) (fun i H => Same H1 H ∧ H D = some (.lst (ys.take i))) ⟨same_upd hD, upd_same⟩ (fun i H _ h => ha.elim (fun r => r.elim (fun e => .inl (.inl (h.1 _ _ e))) (fun ⟨o, e⟩ => .inl (.inr ⟨o, h.1 _ _ e⟩))) .inr) (fun i x H hx h => ?_) (fun H h => hd H h.1 (by rw [h.2, List.take_of_length_le (by omega)]))
  have hi : i < ys.length := by have := (List.getElem?_eq_some_iff.mp hx).1; omega
  refine hs i x ys[i] H _ hx (List.getElem?_eq_getElem hi) h.1 (fun H'' s => ?_)
  refine ⟨ys.take i, s _ _ h.2, size_lt (by simp; omega), same_set (L2.Same.trans h.1 s) hD, ?_⟩
  rw [upd_same, List.take_add_one, List.getElem?_eq_getElem hi]; rfl
/-! ### two things of the same data -/
def FlatD (n : Nat) (d : PyData) : Prop := d.canLay0 = true ∧ d.depth ≤ n
theorem flat_all {n : Nat} : ∀ ds : List PyData, (∀ d ∈ ds, FlatD n d) → PyData.canLayAll0 ds = true ∧ PyData.depthAll ds ≤ n
  | [], _ => by simp [PyData.canLayAll0, PyData.depthAll]
  | d :: r, h => by
    have i := flat_all r fun x hx => h x (List.mem_cons_of_mem _ hx)
    have j := h d List.mem_cons_self
    unfold FlatD at j
    simp only [PyData.canLayAll0, PyData.depthAll, j.1, i.1, Bool.and_self, true_and]
    omega
theorem flat_list {n : Nat} {ds : List PyData} (h : ∀ d ∈ ds, FlatD n d) : FlatD (n + 1) (.list ds) := by
  have i := flat_all ds h
  exact ⟨by simp only [PyData.canLay0]; exact i.1, by simp only [PyData.depth]; omega⟩
theorem flat_tup {n : Nat} {ds : List PyData} (h : ∀ d ∈ ds, FlatD n d) : FlatD (n + 1) (.tuple ds) := by
  have i := flat_all ds h
  exact ⟨by simp only [PyData.canLay0]; exact i.1, by simp only [PyData.depth]; omega⟩
theorem flat_int (n : Nat) (i : Int) : FlatD n (.int i) := ⟨by simp [PyData.canLay0], by simp [PyData.depth]⟩
theorem flat_sh {n : Nat} {d : PyData} (h : FlatD n d) (hn : n ≤ 64 := by decide) : SeqAt.shaped d = true := by
  show (PyData.canLay0 d && decide (PyData.depth d ≤ 64)) = true
  rw [Bool.and_eq_true]
  exact ⟨h.1, decide_eq_true (Nat.le_trans h.2 hn)⟩
theorem op_eqS {X : Cx} (hu : X.A.units + 64 < cLine) : OpR X (compareOp .Eq) (fun x y H Q => ∃ d, Dp X.K H x d ∧ Dp X.K H y d ∧ SeqAt.shaped d = true ∧ Q (.bl true) H) := by
  intro pins s σ H x y v u Q I rx ry ⟨d, h1, h2, hs, k⟩
  refine op_eqD hu pins s σ H x y v u Q I rx ry ⟨d, d, h1, h2, hs, hs, ?_⟩
  rw [SeqAt.eqv_refl d (SeqAt.canLay_of_shaped hs)]; exact k
theorem op_neS {X : Cx} (hu : X.A.units + 64 < cLine) : OpR X (compareOp .NotEq) (fun x y H Q => ∃ d, Dp X.K H x d ∧ Dp X.K H y d ∧ SeqAt.shaped d = true ∧ Q (.bl false) H) := by
  intro pins s σ H x y v u Q I rx ry ⟨d, h1, h2, hs, k⟩
  refine op_neD hu pins s σ H x y v u Q I rx ry ⟨d, d, h1, h2, hs, hs, ?_⟩
  rw [SeqAt.eqv_refl d (SeqAt.canLay_of_shaped hs)]; exact k
/-- the only error's __init__: self.value = value -/
def spEI (C : Addr) : Sp := fun vs H Q _ => ∃ (a : Addr) (v : V), vs = [.ref a, v] ∧ H a = some (exo a C none) ∧ ∀ dx, H dx = none → dx ≠ a → Q .non (upd (upd H dx (exd dx [("value", v)])) a (exo a C (some dx)))
theorem ei_same {H : Hp} {a dx C : Addr} {fs : List (Str × V)} {o u : HO} (ha : H a = none) (hd : upd H a o dx = none) (ne : dx ≠ a) :
    Same H (upd (del (upd (upd (upd H a o) dx u) a (exo a C (some dx))) a) dx (.xd fs)) := fun b v e => by
  have n1 : b ≠ a := ne_of_none e ha
  have n2 : b ≠ dx := by
    intro z
    rw [z] at e
    rw [upd_ne ne] at hd
    rw [hd] at e
    cases e
  rw [upd_ne n2, del_ne n1, upd_ne n1, upd_ne n2, upd_ne n1]
  exact e
end Hx

set_option Elab.async false
set_option linter.all false
set_option maxRecDepth 100000
set_option maxHeartbeats 8000000

namespace K12
open PySem PySem.Spec PyProof.Rows L2 Hx
def top (i : Nat) : Stmt := PySem.Challenge.pw_orderlycore_k12_whole_whims_taken.main.body.getD i (.Pass ⟨0, 0, 0, 0⟩)
abbrev s_InvalidMany_init : Stmt := inClass (top 2) 0
theorem sc_InvalidMany_init : FnScope ["self", "value"] ["self", "value"] (defScope s_InvalidMany_init) := ⟨rfl, rfl, rfl, by decide +kernel, rfl, by decide +kernel, by decide +kernel⟩
abbrev s_is_integer : Stmt := top 5
theorem sc_is_integer : FnScope ["value"] ["value"] (defScope s_is_integer) := ⟨rfl, rfl, rfl, by decide +kernel, rfl, by decide +kernel, by decide +kernel⟩
abbrev s_is_count : Stmt := top 6
theorem sc_is_count : FnScope ["value"] ["value"] (defScope s_is_count) := ⟨rfl, rfl, rfl, by decide +kernel, rfl, by decide +kernel, by decide +kernel⟩
abbrev s_is_between : Stmt := top 7
theorem sc_is_between : FnScope ["value", "least", "most"] ["value", "least", "most"] (defScope s_is_between) := ⟨rfl, rfl, rfl, by decide +kernel, rfl, by decide +kernel, by decide +kernel⟩
abbrev s_is_list : Stmt := top 8
theorem sc_is_list : FnScope ["value"] ["value"] (defScope s_is_list) := ⟨rfl, rfl, rfl, by decide +kernel, rfl, by decide +kernel, by decide +kernel⟩
abbrev s_Whims_init : Stmt := inClass (top 12) 0
theorem sc_Whims_init : FnScope ["self", "numbers"] ["self", "numbers"] (defScope s_Whims_init) := ⟨rfl, rfl, rfl, by decide +kernel, rfl, by decide +kernel, by decide +kernel⟩
abbrev s_Whims_take : Stmt := inClass (top 12) 1
theorem sc_Whims_take : FnScope ["self", "many", "at"] ["self", "many"] (defScope s_Whims_take) := ⟨rfl, rfl, rfl, by decide +kernel, rfl, by decide +kernel, by decide +kernel⟩
abbrev s_Whims_taken : Stmt := inClass (top 12) 2
theorem sc_Whims_taken : FnScope ["self"] ["self"] (defScope s_Whims_taken) := ⟨rfl, rfl, rfl, by decide +kernel, rfl, by decide +kernel, by decide +kernel⟩
abbrev s_Whims_copy : Stmt := inClass (top 12) 3
theorem sc_Whims_copy : FnScope ["self", "made"] ["self"] (defScope s_Whims_copy) := ⟨rfl, rfl, rfl, by decide +kernel, rfl, by decide +kernel, by decide +kernel⟩
abbrev s_are_whims : Stmt := top 13
theorem sc_are_whims : FnScope ["value", "number"] ["value"] (defScope s_are_whims) := ⟨rfl, rfl, rfl, by decide +kernel, rfl, by decide +kernel, by decide +kernel⟩
abbrev s_Lpot : Stmt := top 15
theorem sc_Lpot : FnScope ["_law_script", "_law_k", "_law_cell"] ["_law_script", "_law_k"] (defScope s_Lpot) := ⟨rfl, rfl, rfl, by decide +kernel, rfl, by decide +kernel, by decide +kernel⟩
abbrev s_Ldraw : Stmt := top 16
theorem sc_Ldraw : FnScope ["_law_pot_here", "_law_size", "_law_digit"] ["_law_pot_here", "_law_size"] (defScope s_Ldraw) := ⟨rfl, rfl, rfl, by decide +kernel, rfl, by decide +kernel, by decide +kernel⟩
abbrev s_Lpick : Stmt := top 17
theorem sc_Lpick : FnScope ["_law_pot_here", "_law_some"] ["_law_pot_here", "_law_some"] (defScope s_Lpick) := ⟨rfl, rfl, rfl, by decide +kernel, rfl, by decide +kernel, by decide +kernel⟩
abbrev s_Lrefused : Stmt := top 18
theorem sc_Lrefused : FnScope ["_law_whims", "_law_many", "_law_told"] ["_law_whims", "_law_many"] (defScope s_Lrefused) := ⟨rfl, rfl, rfl, by decide +kernel, rfl, by decide +kernel, by decide +kernel⟩
abbrev s_Ldue : Stmt := top 19
theorem sc_Ldue : FnScope ["_law_numbers", "_law_at", "_law_many"] ["_law_numbers", "_law_at", "_law_many"] (defScope s_Ldue) := ⟨rfl, rfl, rfl, by decide +kernel, rfl, by decide +kernel, by decide +kernel⟩
abbrev s_law : Stmt := top 20
theorem sc_law : FnScope ["_law_script", "_law_pot_here", "_law_numbers", "_law_turn", "_law_handed", "_law_whims", "_law_rows", "_law_held", "_law_at", "_law_place", "_law_some", "_law_told", "_law_way", "_law_many", "_law_found", "_law_again"] ["_law_script"] (defScope s_law) := ⟨rfl, rfl, rfl, by decide +kernel, rfl, by decide +kernel, by decide +kernel⟩
structure Txt (K : PySem.W.Frag) (mg : Str → Option Value) where
  C_Whims : Addr
  cl_Whims : Cls K C_Whims
  g_Whims : mg "Whims" = some (.ref C_Whims)
  n_Whims_numbers : NoAttr K C_Whims "_numbers"
  n_Whims_position : NoAttr K C_Whims "_position"
  C_InvalidMany : Addr
  g_InvalidMany : mg "InvalidMany" = some (.ref C_InvalidMany)
  ox_InvalidMany : OexC K C_InvalidMany
  ov_InvalidMany : PySem.W.findIn K (.ref C_InvalidMany) "value" = some none
  te_InvalidMany : PySem.W.exmOne K (.ref C_InvalidMany) (.ref C_InvalidMany) = some true
  f_InvalidMany_init : Addr
  fd_InvalidMany_init : FuncData
  F_InvalidMany_init : Fun K "__init__" "InvalidMany.__init__" s_InvalidMany_init f_InvalidMany_init fd_InvalidMany_init
  b_InvalidMany_init : Binds K fd_InvalidMany_init ["self", "value"] []
  oi_InvalidMany : PySem.W.findIn K (.ref C_InvalidMany) "__init__" = some (some (.ref f_InvalidMany_init))
  ot_InvalidMany : PySem.W.typeIn K (.ref f_InvalidMany_init) = some (.type "function")
  f_is_integer : Addr
  fd_is_integer : FuncData
  F_is_integer : Fun K "is_integer" "is_integer" s_is_integer f_is_integer fd_is_integer
  g_is_integer : mg "is_integer" = some (.ref f_is_integer)
  b_is_integer : Binds K fd_is_integer ["value"] []
  f_is_count : Addr
  fd_is_count : FuncData
  F_is_count : Fun K "is_count" "is_count" s_is_count f_is_count fd_is_count
  g_is_count : mg "is_count" = some (.ref f_is_count)
  b_is_count : Binds K fd_is_count ["value"] []
  f_is_between : Addr
  fd_is_between : FuncData
  F_is_between : Fun K "is_between" "is_between" s_is_between f_is_between fd_is_between
  g_is_between : mg "is_between" = some (.ref f_is_between)
  b_is_between : Binds K fd_is_between ["value", "least", "most"] []
  f_is_list : Addr
  fd_is_list : FuncData
  F_is_list : Fun K "is_list" "is_list" s_is_list f_is_list fd_is_list
  g_is_list : mg "is_list" = some (.ref f_is_list)
  b_is_list : Binds K fd_is_list ["value"] []
  f_Whims_init : Addr
  fd_Whims_init : FuncData
  F_Whims_init : Fun K "__init__" "Whims.__init__" s_Whims_init f_Whims_init fd_Whims_init
  b_Whims_init : Binds K fd_Whims_init ["self", "numbers"] []
  mk_Whims : Mk K C_Whims f_Whims_init
  f_Whims_take : Addr
  fd_Whims_take : FuncData
  F_Whims_take : Fun K "take" "Whims.take" s_Whims_take f_Whims_take fd_Whims_take
  b_Whims_take : Binds K fd_Whims_take ["self", "many"] []
  kb_Whims_take : KBinds K fd_Whims_take ["self", "many"] ["many"] kwM kwM
  me_Whims_take : Meth K C_Whims "take" f_Whims_take
  f_Whims_taken : Addr
  fd_Whims_taken : FuncData
  F_Whims_taken : Fun K "taken" "Whims.taken" s_Whims_taken f_Whims_taken fd_Whims_taken
  b_Whims_taken : Binds K fd_Whims_taken ["self"] []
  pa_Whims_taken : Addr
  p_Whims_taken : PropOf K C_Whims "taken" pa_Whims_taken f_Whims_taken
  f_Whims_copy : Addr
  fd_Whims_copy : FuncData
  F_Whims_copy : Fun K "copy" "Whims.copy" s_Whims_copy f_Whims_copy fd_Whims_copy
  b_Whims_copy : Binds K fd_Whims_copy ["self"] []
  me_Whims_copy : Meth K C_Whims "copy" f_Whims_copy
  f_are_whims : Addr
  fd_are_whims : FuncData
  F_are_whims : Fun K "are_whims" "are_whims" s_are_whims f_are_whims fd_are_whims
  g_are_whims : mg "are_whims" = some (.ref f_are_whims)
  b_are_whims : Binds K fd_are_whims ["value"] []
  f_Lpot : Addr
  fd_Lpot : FuncData
  F_Lpot : Fun K "_law_pot" "_law_pot" s_Lpot f_Lpot fd_Lpot
  g_Lpot : mg "_law_pot" = some (.ref f_Lpot)
  b_Lpot : Binds K fd_Lpot ["_law_script", "_law_k"] []
  f_Ldraw : Addr
  fd_Ldraw : FuncData
  F_Ldraw : Fun K "_law_draw" "_law_draw" s_Ldraw f_Ldraw fd_Ldraw
  g_Ldraw : mg "_law_draw" = some (.ref f_Ldraw)
  b_Ldraw : Binds K fd_Ldraw ["_law_pot_here", "_law_size"] []
  f_Lpick : Addr
  fd_Lpick : FuncData
  F_Lpick : Fun K "_law_pick" "_law_pick" s_Lpick f_Lpick fd_Lpick
  g_Lpick : mg "_law_pick" = some (.ref f_Lpick)
  b_Lpick : Binds K fd_Lpick ["_law_pot_here", "_law_some"] []
  f_Lrefused : Addr
  fd_Lrefused : FuncData
  F_Lrefused : Fun K "_law_refused" "_law_refused" s_Lrefused f_Lrefused fd_Lrefused
  g_Lrefused : mg "_law_refused" = some (.ref f_Lrefused)
  b_Lrefused : Binds K fd_Lrefused ["_law_whims", "_law_many"] []
  f_Ldue : Addr
  fd_Ldue : FuncData
  F_Ldue : Fun K "_law_due" "_law_due" s_Ldue f_Ldue fd_Ldue
  g_Ldue : mg "_law_due" = some (.ref f_Ldue)
  b_Ldue : Binds K fd_Ldue ["_law_numbers", "_law_at", "_law_many"] []
  f_law : Addr
  fd_law : FuncData
  F_law : Fun K "law" "law" s_law f_law fd_law
  g_law : mg "law" = some (.ref f_law)
  b_law : Binds K fd_law ["_law_script"] []
  m_abs : mg "abs" = none
  m_all : mg "all" = none
  m_bool : mg "bool" = none
  m_divmod : mg "divmod" = none
  m_int : mg "int" = none
  m_isinstance : mg "isinstance" = none
  m_len : mg "len" = none
  m_list : mg "list" = none
  m_max : mg "max" = none
  m_range : mg "range" = none
  m_tuple : mg "tuple" = none
  c__MOST_NUMBERS : ∃ t, mg "_MOST_NUMBERS" = some (.int 200 t)
  c__GREATEST : ∃ t, mg "_GREATEST" = some (.int 1000000 t)
end K12

set_option Elab.async false
set_option linter.all false
set_option maxRecDepth 100000
set_option maxHeartbeats 8000000

namespace K12
open PySem PySem.Spec PyProof.Rows L2 Hx 
local macro_rules | `(tactic| walk_at "sm") => `(tactic| repeat' (first | assumption | apply Hx.Same.upd | exact L2.Same.refl _ | apply same_trans'))
local macro_rules | `(tactic| walk_at "hp") => `(tactic| repeat' (first | assumption | exact upd_same | apply old_upd | apply same_at))
local macro_rules | `(tactic| walk_at "rd") => `(tactic| repeat' (first | rfl | apply Exists.intro | apply And.intro | refine iteT ?_ | refine iteF ?_ | exact upd_same | exact SqL.of (by assumption) | exact SqL.of upd_same | exact SqT.of upd_same | exact SqT.of (by assumption) | ((with_reducible show (_ : Int) < _); omega) | ((with_reducible show (_ : Int) ≤ _); omega) | (show (_ : Prop); assumption) | exact Or.inl ⟨_, by assumption, rfl⟩ | exact Or.inl ⟨rfl, _, SqL.of (by assumption)⟩ | exact Or.inl ⟨rfl, _, SqL.of upd_same⟩ | apply old_upd | apply Hx.SqL.new | apply tyl_new | apply Pot.new | exact same_at (by assumption) (by assumption) | exact Or.inl (SqL.of (by assumption)) | exact Or.inl (by assumption) | exact Or.inl (SqL.of upd_same) | exact size_le (Nat.le_of_ble_eq_true rfl) | exact Nat.le_of_ble_eq_true rfl | exact True.intro | exact Or.inl rfl | exact Or.inr rfl | (show (_ : Prop); omega) | (show (_ : Prop); dsimp only; omega) | exact mulw64 (by omega) (by omega) | exact mulw64 (by (try dsimp only); omega) (by (try dsimp only); omega)))

section
variable {P : Program} {w : World} {K : PySem.W.Frag} {mg : Str → Option Value} {base : Heap}
/-- a value of any plain kind -/
def intV : V → Bool
  | .int _ => true
  | _ => false
def sp_is_integer : Sp := fun vs H Q _ => ∃ i : Int, vs = [.int i] ∧ Q (.bl true) H
theorem ok_is_integer (T : Txt K mg) : FnOk P w K mg base CX0 1 T.f_is_integer T.fd_is_integer ["value"] (sp_is_integer) := by
  refine T.F_is_integer.ok sc_is_integer (fun vs H Q E h => ?_) (fun cdv A outer s H vs Q E hr h => ?_)
  · obtain ⟨i, rfl, k⟩ := h; rfl
  · obtain ⟨i, rfl, k⟩ := h
    refine ⟨_, (pss_one (ps_ret (pe_and (pe_callB call_isi (by rfl) T.m_isinstance (by decide +kernel) (pa_cons (pv 0) (pa_cons (pe_bltn (v := .ty "int") (u := .type "int") (by rfl) T.m_int (by decide +kernel) rfl) pa_nil))) (pe_one (pe_not (pe_callB call_isi (by rfl) T.m_isinstance (by decide +kernel) (pa_cons (pv 0) (pa_cons (pe_bltn (v := .ty "bool") (u := .type "bool") (by rfl) T.m_bool (by decide +kernel) rfl) pa_nil)))))))), ?_⟩
    clear hr
    refine ⟨_, rfl, _, _, _, _, true, rfl, .ty _, .base (.int _), kit_ty (by decide +kernel), true, rfl, iteT ?_⟩
    refine ⟨_, rfl, _, _, _, _, false, rfl, .ty _, .base (.int _), kit_ty (by decide +kernel), false, rfl, k⟩
def sp_is_count : Sp := fun vs H Q _ => ∃ i : Int, vs = [.int i] ∧ Q (.bl (decide (0 ≤ i))) H
theorem ok_is_count (T : Txt K mg) : FnOk P w K mg base CX0 2 T.f_is_count T.fd_is_count ["value"] (sp_is_count) := by
  have G_is_integer := ok_is_integer (P := P) (w := w) (base := base) T
  refine T.F_is_count.ok sc_is_count (fun vs H Q E h => ?_) (fun cdv A outer s H vs Q E hr h => ?_)
  · obtain ⟨i, rfl, k⟩ := h; rfl
  · obtain ⟨i, rfl, k⟩ := h
    refine ⟨_, (pss_one (ps_ret (pe_and (pe_call G_is_integer (hr.mono (by decide)) rfl T.g_is_integer T.F_is_integer.kp T.b_is_integer .nil pass0 (pa_cons (pv 0) pa_nil)) (pe_one (pe_cmpR op_ge (pv 0) pe_int (nomark _)))))), ?_⟩
    clear G_is_integer
    clear hr
    walk_at "rd"
def sp_is_between : Sp := fun vs H Q _ => ∃ i a b : Int, vs = [.int i, .int a, .int b] ∧ Q (.bl (decide (a ≤ i ∧ i ≤ b))) H
theorem ok_is_between (T : Txt K mg) : FnOk P w K mg base CX0 2 T.f_is_between T.fd_is_between ["value", "least", "most"] (sp_is_between) := by
  have G_is_integer := ok_is_integer (P := P) (w := w) (base := base) T
  refine T.F_is_between.ok sc_is_between (fun vs H Q E h => ?_) (fun cdv A outer s H vs Q E hr h => ?_)
  · obtain ⟨i, a, b, rfl, k⟩ := h; rfl
  · obtain ⟨i, a, b, rfl, k⟩ := h
    refine ⟨_, (pss_one (ps_ret (pe_and (pe_call G_is_integer (hr.mono (by decide)) rfl T.g_is_integer T.F_is_integer.kp T.b_is_integer .nil pass0 (pa_cons (pv 0) pa_nil)) (pe_one (pe_chain op_le op_le (pv 1) (pv 0) (pv 2)))))), ?_⟩
    clear G_is_integer
    clear hr
    walk_at "rd"
    refine iteD (fun h1 => ?_) (fun h1 => ?_)
    · walk_at "rd"; exact qbl k (by simp [h1])
    · exact qbl k (by simp [h1])
def Sq (K : PySem.W.Frag) (H : Hp) (a : Addr) (xs : List V) : Prop := H a = some (.lst xs) ∨ H a = some (.tup xs)
theorem Sq.same {K : PySem.W.Frag} {H H' : Hp} {a : Addr} {xs : List V} (s : Same H H') (h : Sq K H a xs) : Sq K H' a xs := h.imp (s _ _) (s _ _)
theorem Sq.or {K : PySem.W.Frag} {H : Hp} {a : Addr} {xs : List V} (h : Sq K H a xs) : SqL K H a xs ∨ SqT K H a xs := h.imp SqL.of SqT.of
def sp_is_list (K : PySem.W.Frag) : Sp := fun vs H Q _ => ∃ (a : Addr) (xs : List V), vs = [.ref a] ∧ Sq K H a xs ∧ ∀ H', Same H H' → Q (.bl true) H'
theorem ok_is_list (T : Txt K mg) : FnOk P w K mg base CX0 1 T.f_is_list T.fd_is_list ["value"] (sp_is_list K) := by
  refine T.F_is_list.ok sc_is_list (fun vs H Q E h => ?_) (fun cdv A outer s H vs Q E hr h => ?_)
  · obtain ⟨a, xs, rfl, hs, k⟩ := h; rfl
  · obtain ⟨a, xs, rfl, hs, k⟩ := h
    refine ⟨_, (pss_one (ps_ret (pe_callB call_isiT (by rfl) T.m_isinstance (by decide +kernel) (pa_cons (pv 0) (pa_cons (pe_tup (pa_cons (pe_bltn (v := .ty "list") (u := .type "list") (by rfl) T.m_list (by decide +kernel) rfl) (pa_cons (pe_bltn (v := .ty "tuple") (u := .type "tuple") (by rfl) T.m_tuple (by decide +kernel) rfl) pa_nil))) pa_nil))))), ?_⟩
    clear hr
    walk_at "rd"
    intro tp htp
    rcases hs with h | h
    · exact ⟨_, _, [.ty "list", .ty "tuple"], _, _, true, rfl, upd_same, .cons (.ty _) (.cons (.ty _) .nil), .base (.lst (old_upd htp h)), kitAny_cons (kit_ty (b := "list") (r := true) (by decide +kernel)) (fun z => nomatch z) (fun _ => rfl), k _ (same_upd htp)⟩
    · exact ⟨_, _, [.ty "list", .ty "tuple"], _, _, true, rfl, upd_same, .cons (.ty _) (.cons (.ty _) .nil), .base (.tup (old_upd htp h)), kitAny_cons (kit_ty (b := "list") (r := false) (by decide +kernel)) (fun _ => kitAny_cons (kit_ty (b := "tuple") (r := true) (by decide +kernel)) (fun z => nomatch z) (fun _ => rfl)) (fun z => nomatch z), k _ (same_upd htp)⟩

theorem ok_InvalidMany_init (T : Txt K mg) : FnOk P w K mg base CX0 1 T.f_InvalidMany_init T.fd_InvalidMany_init ["self", "value"] (spEI T.C_InvalidMany) := by
  refine T.F_InvalidMany_init.ok sc_InvalidMany_init (fun vs H Q E h => ?_) (fun cdv A outer s H vs Q E hr h => ?_)
  · obtain ⟨a, v, rfl, ha, k⟩ := h; rfl
  · obtain ⟨a, v, rfl, ha, k⟩ := h
    refine ⟨_, (pss_one (ps_ost (pv 0) (pv 1))), ?_⟩
    clear hr
    walk_at "rd"
    · exact T.ox_InvalidMany
    · exact T.ov_InvalidMany
    exact .inl ⟨ha, fun dx h1 h2 => k dx h1 h2⟩
def sp_are_whims (K : PySem.W.Frag) : Sp := fun vs H Q _ => ∃ (a : Addr) (ns : List Int), vs = [.ref a] ∧ Sq K H a (ns.map V.int) ∧ ns.length ≤ 200 ∧ (∀ n ∈ ns, 0 ≤ n ∧ n ≤ 1000000) ∧ ∀ H', Same H H' → Q (.bl true) H'
theorem all_true (n : Nat) : (List.replicate n true).all id = true := by induction n <;> simp
theorem ok_are_whims (T : Txt K mg) : FnOk P w K mg base CX0 3 T.f_are_whims T.fd_are_whims ["value"] (sp_are_whims K) := by
  have G_is_list := ok_is_list (P := P) (w := w) (base := base) T
  have G_is_between := ok_is_between (P := P) (w := w) (base := base) T
  refine T.F_are_whims.ok sc_are_whims (fun vs H Q E h => ?_) (fun cdv A outer s H vs Q E hr h => ?_)
  · obtain ⟨a, ns, rfl, hs, hl, hn, k⟩ := h; rfl
  · obtain ⟨a, ns, rfl, hs, hl, hn, k⟩ := h
    refine ⟨_, (pss_cons (ps_if (pt_not (PW.pt (pw_and (pt_val (pe_call G_is_list (hr.mono (by decide)) rfl T.g_is_list T.F_is_list.kp T.b_is_list .nil pass0 (pa_cons (pv 0) pa_nil))) (pw_and1 (pt_cmpR op_le (pe_callB call_len_seq (by rfl) T.m_len (by decide +kernel) (pa_cons (pv 0) pa_nil)) (pe_gint rfl T.c__MOST_NUMBERS) (nomark _))))))
          (pss_one (ps_ret pe_bl))
          pss_nil)
        (pss_one (ps_ret (pe_callB (cr_all rfl) (by rfl) T.m_all (by decide +kernel) (pa_cons (pe_lc (own := [("number", 1)]) (g := gName 1) (tt := tYes) rfl sc_are_whims.nd (PI.or (pi_list (pv 0)) (pi_tup (pv 0))) (blkOk_by (N := ["value", "number"]) (sc := defScope s_are_whims) (by decide +kernel)) (fun _ _ _ _ _ => pg_name (i := 1) sc_are_whims.nd rfl (Or.inl rfl)) (fun _ _ _ _ _ => pts_nil) (fun _ _ _ _ _ => (pe_call G_is_between (hr.mono (by decide)) rfl T.g_is_between T.F_is_between.kp T.b_is_between .nil pass0 (pa_cons (pv 1) (pa_cons pe_int (pa_cons (pe_gint rfl T.c__GREATEST) pa_nil)))))) pa_nil))))), ?_⟩
    clear G_is_list G_is_between
    clear hr
    walk_at "rd"
    intro H1 s1
    have hq := hs.same s1
    have ho := hq.or
    walk_at "rd"
    refine iteN (fun h => absurd (by simp; omega) h) (fun _ => ?_)
    walk_at "rd"
    have turn : ∀ {i : Nat} {x y : V} {H' : Hp} {Q' : VK}, (ns.map V.int)[i]? = some x → ((List.replicate ns.length true).map V.bl)[i]? = some y → (∀ H'', Same H' H'' → Q' y H'') → ∃ z : Int, x = .int z ∧ Q' (.bl (decide (0 ≤ z ∧ z ≤ 1000000))) H' := by
      intro i x y H' Q' hx hy kq
      obtain ⟨z, rfl, hz⟩ := int_get hx
      rw [List.map_replicate] at hy
      obtain rfl := List.eq_of_mem_replicate (List.mem_of_getElem? hy)
      exact ⟨z, rfl, qbl (kq _ (L2.Same.refl _)) (decide_eq_true (hn z (List.mem_of_getElem? hz)))⟩
    rcases hq with h | h
    · refine Or.inl ?_
      walk_at "rd"
      intro D hD
      refine lc_mapS (xs := ns.map V.int) ((List.replicate ns.length true).map V.bl) (SqL.of h) hD (by simp) (by simp; omega) (fun i x y H' Q' hx hy s kq => ?_) (fun H2 s2 e2 => ?_)
      · obtain ⟨z, rfl, q⟩ := turn hx hy kq
        walk_at "rd"
      · walk_at "rd"
        exact qbl (k H2 (L2.Same.trans s1 s2)) (all_true _)
    · refine Or.inr ?_
      have ht : SqT K H1 a (ns.map V.int) := SqT.of h
      walk_at "rd"
      intro D hD
      refine lc_mapT (xs := ns.map V.int) ((List.replicate ns.length true).map V.bl) ht hD (by simp) (by simp; omega) (fun i x y H' Q' hx hy s kq => ?_) (fun H2 s2 e2 => ?_)
      · obtain ⟨z, rfl, q⟩ := turn hx hy kq
        walk_at "rd"
      · walk_at "rd"
        exact qbl (k H2 (L2.Same.trans s1 s2)) (all_true _)
theorem put_num (n : Addr) : putF "_numbers" (.ref n) [] = ([("_numbers", .ref n)] : List (Str × V)) := rfl
theorem np : ¬ (("_numbers" : Str) = "_position") := by decide +kernel
theorem put_new (n : Addr) (z : Int) : putF "_position" (.int z) [("_numbers", .ref n)] = ([("_numbers", .ref n), ("_position", .int z)] : List (Str × V)) := by
  unfold putF; rw [if_neg np]; rfl
theorem put_pos (n : Addr) (z y : Int) : putF "_position" (.int y) [("_numbers", .ref n), ("_position", .int z)] = ([("_numbers", .ref n), ("_position", .int y)] : List (Str × V)) := by
  unfold putF; rw [if_neg np]; unfold putF; rw [if_pos rfl]
theorem get_num (n : Addr) (z : Int) : ([("_numbers", .ref n), ("_position", .int z)] : List (Str × V)).lookup ("_numbers" : Str) = some (.ref n) := by
  simp [List.lookup]
theorem get_pos (n : Addr) (z : Int) : ([("_numbers", .ref n), ("_position", .int z)] : List (Str × V)).lookup ("_position" : Str) = some (.int z) := by
  have e : (("_position" : Str) == "_numbers") = false := by decide +kernel
  simp [List.lookup, e]
/-- Whims stand at x, their numbers at n, so many taken -/
structure WhimsAt (C : Addr) (H : Hp) (x n : Addr) (ns : List Int) (t : Nat) : Prop where
  ob : ∃ dx, H x = some (.ins C dx [("_numbers", .ref n), ("_position", .int (t : Int))])
  nu : H n = some (.lst (ns.map V.int))
  ln : ns.length ≤ 200
  bd : ∀ z ∈ ns, 0 ≤ z ∧ z ≤ 1000000
def sp_init (K : PySem.W.Frag) (C : Addr) : Sp := fun vs H Q _ => ∃ (x dx a : Addr) (ns : List Int), vs = [.ref x, .ref a] ∧ H x = some (.ins C dx []) ∧ Sq K H a (ns.map V.int) ∧ ns.length ≤ 200 ∧ (∀ n ∈ ns, 0 ≤ n ∧ n ≤ 1000000) ∧
  ∀ (n : Addr) (H' : Hp), H n = none → WhimsAt C H' x n ns 0 → But x H H' → Q .non H'
theorem ok_Whims_init (T : Txt K mg) : FnOk P w K mg base CX0 4 T.f_Whims_init T.fd_Whims_init ["self", "numbers"] (sp_init K T.C_Whims) := by
  have G_are_whims := ok_are_whims (P := P) (w := w) (base := base) T
  refine T.F_Whims_init.ok sc_Whims_init (fun vs H Q E h => ?_) (fun cdv A outer s H vs Q E hr h => ?_)
  · obtain ⟨x, dx, a, ns, rfl, hx, hs, hl, hn, k⟩ := h; rfl
  · obtain ⟨x, dx, a, ns, rfl, hx, hs, hl, hn, k⟩ := h
    refine ⟨_, (pss_cons (ps_if (pt_not (pt_val (pe_call G_are_whims (hr.mono (by decide)) rfl T.g_are_whims T.F_are_whims.kp T.b_are_whims .nil pass0 (pa_cons (pv 1) pa_nil))))
          (pss_one ps_never)
          pss_nil)
        (pss_cons (ps_stop (ps_fld (pv 0) (pe_callTy call_list_of (by rfl) T.m_list (by decide +kernel) (pa_cons (pv 1) pa_nil)) rfl))
        (pss_one (ps_stop (ps_fld (pv 0) pe_int rfl))))), ?_⟩
    clear G_are_whims
    clear hr
    have c1 := T.cl_Whims
    have c2 := T.n_Whims_numbers
    have c3 := T.n_Whims_position
    walk_at "rd"
    intro H1 s1
    have ho := (hs.same s1).or
    have hx1 := s1 _ _ hx
    walk_at "rd"
    intro l hl1
    walk_at "rd"
    refine ⟨?_⟩
    rw [put_num]
    walk_at "rd"
    refine ⟨?_⟩
    rw [put_new]
    have nlx : l ≠ x := fun z => by rw [z, hx1] at hl1; cases hl1
    refine k l _ (L2.Same.free s1 hl1) ⟨⟨dx, upd_same⟩, ?_, hl, hn⟩ ?_
    · rw [upd_ne nlx, upd_ne nlx]; exact upd_same
    · intro b o nb hb
      rw [upd_ne nb, upd_ne nb]
      exact old_upd hl1 (s1 _ _ hb)
def due (ns : List Int) (t : Nat) (m : Int) : Int := match ns[t]? with
  | some z => z % m
  | none => 0
def sp_take (C : Addr) : Sp := fun vs H Q _ => ∃ (x n : Addr) (ns : List Int) (t : Nat) (m : Int), vs = [.ref x, .int m] ∧ WhimsAt C H x n ns t ∧ 0 < m ∧ ∀ H' : Hp, WhimsAt C H' x n ns (t + 1) → But x H H' → Q (.int (due ns t m)) H'
theorem WhimsAt.ne {C : Addr} {H : Hp} {x n : Addr} {ns : List Int} {t : Nat} (h : WhimsAt C H x n ns t) : n ≠ x := fun z => by
  obtain ⟨dx, e⟩ := h.ob
  have e2 := h.nu
  rw [z, e] at e2; cases e2
theorem ok_Whims_take (T : Txt K mg) : FnOk P w K mg base CX0 3 T.f_Whims_take T.fd_Whims_take ["self", "many"] (sp_take T.C_Whims) := by
  have G_is_count := ok_is_count (P := P) (w := w) (base := base) T
  refine T.F_Whims_take.ok sc_Whims_take (fun vs H Q E h => ?_) (fun cdv A outer s H vs Q E hr h => ?_)
  · obtain ⟨x, n, ns, t, m, rfl, hw, hm, k⟩ := h; rfl
  · obtain ⟨x, n, ns, t, m, rfl, hw, hm, k⟩ := h
    refine ⟨_, (pss_cons (ps_if (pt_not (PW.pt (pw_and (pt_val (pe_call G_is_count (hr.mono (by decide)) rfl T.g_is_count T.F_is_count.kp T.b_is_count .nil pass0 (pa_cons (pv 1) pa_nil))) (pw_and1 (pt_cmpR op_gt (pv 1) pe_int (nomark _))))))
          (pss_one ps_never)
          pss_nil)
        (pss_cons (ps_set (i := 2) sc_Whims_take.nd rfl (Or.inl rfl) (pe_fld (pv 0) rfl))
        (pss_cons (ps_stop (ps_fld (pv 0) (pe_op op_add (pv 2) pe_int) rfl))
        (pss_cons (ps_if (pt_cmpR op_lt (pv 2) (pe_callB call_len_list (by rfl) T.m_len (by decide +kernel) (pa_cons (pe_fld (pv 0) rfl) pa_nil)) (nomark _))
          (pss_one (ps_ret (pe_op op_mod (pe_ix ix_list (pe_fld (pv 0) rfl) (pv 2) (fun _ _ => rfl)) (pv 1))))
          pss_nil)
        (pss_one (ps_ret pe_int)))))), ?_⟩
    clear G_is_count
    clear hr
    obtain ⟨dx, hx⟩ := id hw.ob
    have c1 := T.cl_Whims
    have c2 := T.n_Whims_numbers
    have c3 := T.n_Whims_position
    have g1 := get_num n (t : Int)
    have g2 := get_pos n (t : Int)
    have g3 := get_num n ((t : Int) + 1)
    walk_at "rd"
    refine iteD (fun _ => ?_) (fun h => absurd (by omega) h)
    walk_at "rd"
    refine iteN (fun h => absurd hm h) (fun _ => ?_)
    walk_at "rd"
    refine ⟨?_⟩
    rw [put_pos]
    have hn2 : upd H x (.ins T.C_Whims dx [("_numbers", .ref n), ("_position", .int ((t : Int) + 1))]) n = some (.lst (ns.map V.int)) := by rw [upd_ne hw.ne]; exact hw.nu
    have hk := k _ ⟨⟨dx, upd_same⟩, hn2, hw.ln, hw.bd⟩ But.set
    walk_at "rd"
    refine iteD (fun h => ?_) (fun h => ?_)
    · have ht : t < ns.length := by simpa using h
      have hg : atI (ns.map V.int) (t : Int) = some (.int ns[t]) := atI_nat (by rw [List.getElem?_map, List.getElem?_eq_getElem ht]; rfl)
      walk_at "rd"
      exact qint hk (by unfold due; rw [List.getElem?_eq_getElem ht])
    · have ht : ns.length ≤ t := by simp at h; omega
      walk_at "rd"
      exact qint hk (by unfold due; rw [List.getElem?_eq_none ht])
def sp_takeX (C CE : Addr) : Sp := fun vs H _ E => ∃ (x n : Addr) (ns : List Int) (t : Nat) (m : Int), vs = [.ref x, .int m] ∧ WhimsAt C H x n ns t ∧ m = 0 ∧ ∀ (d : Addr) (H' : Hp), H d = none → Same H H' → E (.ref CE) (some d) H'
theorem ok_Whims_takeX (T : Txt K mg) : FnOk P w K mg base (L2.CX P w) 3 T.f_Whims_take T.fd_Whims_take ["self", "many"] (sp_takeX T.C_Whims T.C_InvalidMany) := by
  have G_is_count := ok_is_count (P := P) (w := w) (base := base) T
  have G_InvalidMany_init := ok_InvalidMany_init (P := P) (w := w) (base := base) T
  refine T.F_Whims_take.okX sc_Whims_take (fun vs H Q E h => ?_) (fun cdv A outer s H vs Q E hr h => ?_)
  · obtain ⟨x, n, ns, t, m, rfl, hw, rfl, k⟩ := h; rfl
  · obtain ⟨x, n, ns, t, m, rfl, hw, rfl, k⟩ := h
    refine ⟨_, (pss_cons (ps_if (pt_not (PW.pt (pw_and (pt_val (pe_call G_is_count (hr.mono (by decide)) rfl T.g_is_count T.F_is_count.kp T.b_is_count .nil pass0 (pa_cons (pv 1) pa_nil))) (pw_and1 (pt_cmpR op_gt (pv 1) pe_int (nomark _))))))
          (pss_one (ps_raise rfl (takes_of rfl rfl rfl rfl) (pmk_oex T.ox_InvalidMany T.oi_InvalidMany T.ot_InvalidMany G_InvalidMany_init (hr.mono (by decide)) T.b_InvalidMany_init .nil pass0 rfl T.g_InvalidMany (pa_cons (pv 1) pa_nil))))
          pss_nil)
        (pss_cons (ps_set (i := 2) sc_Whims_take.nd rfl (Or.inl rfl) (pe_fld (pv 0) rfl))
        (pss_cons (ps_stop (ps_fld (pv 0) (pe_op op_add (pv 2) pe_int) rfl))
        (pss_cons (ps_if (pt_cmpR op_lt (pv 2) (pe_callB call_len_list (by rfl) T.m_len (by decide +kernel) (pa_cons (pe_fld (pv 0) rfl) pa_nil)) (nomark _))
          (pss_one (ps_ret (pe_op op_mod (pe_ix ix_list (pe_fld (pv 0) rfl) (pv 2) (fun _ _ => rfl)) (pv 1))))
          pss_nil)
        (pss_one (ps_ret pe_int)))))), ?_⟩
    clear G_is_count G_InvalidMany_init
    clear hr
    walk_at "rd"
    intro a ha
    walk_at "rd"
    intro dx h1 h2
    have h3 : H dx = none := by rw [upd_ne h2] at h1; exact h1
    exact ⟨rfl, dx, _, upd_same, by rw [upd_ne h2]; exact upd_same, h3, k _ _ h3 (ei_same ha h1 h2)⟩
def sp_taken (C : Addr) : Sp := fun vs H Q _ => ∃ (x n : Addr) (ns : List Int) (t : Nat), vs = [.ref x] ∧ WhimsAt C H x n ns t ∧ Q (.int (t : Int)) H
theorem ok_Whims_taken (T : Txt K mg) : FnOk P w K mg base CX0 1 T.f_Whims_taken T.fd_Whims_taken ["self"] (sp_taken T.C_Whims) := by
  refine T.F_Whims_taken.ok sc_Whims_taken (fun vs H Q E h => ?_) (fun cdv A outer s H vs Q E hr h => ?_)
  · obtain ⟨x, n, ns, t, rfl, hw, k⟩ := h; rfl
  · obtain ⟨x, n, ns, t, rfl, hw, k⟩ := h
    refine ⟨_, (pss_one (ps_ret (pe_fld (pv 0) rfl))), ?_⟩
    clear hr
    obtain ⟨dx, hx⟩ := id hw.ob
    have c1 := T.cl_Whims
    have c3 := T.n_Whims_position
    have g2 := get_pos n (t : Int)
    walk_at "rd"
def sp_copy (C : Addr) : Sp := fun vs H Q _ => ∃ (x n : Addr) (ns : List Int) (t : Nat), vs = [.ref x] ∧ WhimsAt C H x n ns t ∧ ∀ (x' n' : Addr) (H' : Hp), H x' = none → H n' = none → WhimsAt C H' x' n' ns t → Same H H' → Q (.ref x') H'
theorem ok_Whims_copy (T : Txt K mg) : FnOk P w K mg base CX0 6 T.f_Whims_copy T.fd_Whims_copy ["self"] (sp_copy T.C_Whims) := by
  have G_Whims_init := ok_Whims_init (P := P) (w := w) (base := base) T
  refine T.F_Whims_copy.ok sc_Whims_copy (fun vs H Q E h => ?_) (fun cdv A outer s H vs Q E hr h => ?_)
  · obtain ⟨x, n, ns, t, rfl, hw, k⟩ := h; rfl
  · obtain ⟨x, n, ns, t, rfl, hw, k⟩ := h
    refine ⟨_, (pss_cons (ps_set (i := 1) sc_Whims_copy.nd rfl (Or.inl rfl) (pe_make T.mk_Whims G_Whims_init (hr.mono (by decide)) rfl T.g_Whims T.b_Whims_init .nil pass0 (pa_cons (pe_fld (pv 0) rfl) pa_nil)))
        (pss_cons (ps_stop (ps_fld (pv 1) (pe_fld (pv 0) rfl) rfl))
        (pss_one (ps_ret (pv 1))))), ?_⟩
    clear G_Whims_init
    clear hr
    obtain ⟨dx, hx⟩ := id hw.ob
    have c1 := T.cl_Whims
    have c2 := T.n_Whims_numbers
    have c3 := T.n_Whims_position
    have g1 := get_num n (t : Int)
    have g2 := get_pos n (t : Int)
    walk_at "rd"
    intro x' dx' nx ndx nex
    have nx' : upd H dx' (.own x') x' = none := by rw [upd_ne (Ne.symm nex)]; exact nx
    have sm : Same H (upd (upd H dx' (.own x')) x' (.ins T.C_Whims dx' [])) := Hx.Same.upd (same_upd ndx) nx'
    have q : Sq K (upd (upd H dx' (.own x')) x' (.ins T.C_Whims dx' [])) n (ns.map V.int) := Or.inl (sm _ _ hw.nu)
    have ln := hw.ln
    have bd := hw.bd
    walk_at "rd"
    intro n' H2 hn' hw' bt
    obtain ⟨dx2, hx2⟩ := id hw'.ob
    have s2 : Same H H2 := fun b o e => bt b o (ne_of_none e nx) (sm _ _ e)
    have hx3 := s2 _ _ hx
    walk_at "rd"
    refine ⟨?_⟩
    rw [show putF "_position" (V.int (t : Int)) [("_numbers", .ref n'), ("_position", .int ((0 : Nat) : Int))] = _ from put_pos _ _ _]
    walk_at "rd"
    exact k x' n' _ nx (L2.Same.free sm hn') ⟨⟨dx2, upd_same⟩, by rw [upd_ne hw'.ne]; exact hw'.nu, ln, bd⟩ (same_set s2 nx)
end
end K12

set_option Elab.async false
set_option linter.all false
set_option maxRecDepth 100000
set_option maxHeartbeats 8000000

namespace K12
open PySem PySem.Spec PyProof.Rows L2 Hx 
local macro_rules | `(tactic| walk_at "sm") => `(tactic| repeat' (first | assumption | apply Hx.Same.upd | exact L2.Same.refl _ | apply same_trans'))
local macro_rules | `(tactic| walk_at "hp") => `(tactic| repeat' (first | assumption | exact upd_same | apply old_upd | apply same_at))
local macro_rules | `(tactic| walk_at "rd") => `(tactic| repeat' (first | rfl | apply Exists.intro | apply And.intro | refine iteT ?_ | refine iteF ?_ | exact upd_same | exact SqL.of (by assumption) | exact SqL.of upd_same | exact SqT.of upd_same | exact SqT.of (by assumption) | ((with_reducible show (_ : Int) < _); omega) | ((with_reducible show (_ : Int) ≤ _); omega) | (show (_ : Prop); assumption) | exact Or.inl ⟨_, by assumption, rfl⟩ | exact Or.inl ⟨rfl, _, SqL.of (by assumption)⟩ | exact Or.inl ⟨rfl, _, SqL.of upd_same⟩ | apply old_upd | apply Hx.SqL.new | apply tyl_new | apply Pot.new | exact same_at (by assumption) (by assumption) | exact Or.inl (SqL.of (by assumption)) | exact Or.inl (by assumption) | exact Or.inl (SqL.of upd_same) | exact size_le (Nat.le_of_ble_eq_true rfl) | exact Nat.le_of_ble_eq_true rfl | exact True.intro | exact Or.inl rfl | exact Or.inr rfl | (show (_ : Prop); omega) | (show (_ : Prop); dsimp only; omega) | exact mulw64 (by omega) (by omega) | exact mulw64 (by (try dsimp only); omega) (by (try dsimp only); omega)))

section
variable {P : Program} {w : World} {K : PySem.W.Frag} {mg : Str → Option Value} {base : Heap}
def sp_Lpot (K : PySem.W.Frag) : Sp := fun vs H Q _ => ∃ (a : Addr) (ns : List Int), vs = [.ref a, .int 0] ∧ SqL K H a (ns.map V.int) ∧ ns.length ≤ 63 ∧ ∀ p (H' : Hp), H p = none → Same H H' → Pot H' p → Q (.ref p) H'
theorem ok_Lpot (T : Txt K mg) : FnOk P w K mg base CX0 1 T.f_Lpot T.fd_Lpot ["_law_script", "_law_k"] (sp_Lpot K) := by
  refine T.F_Lpot.ok sc_Lpot (fun vs H Q E h => ?_) (fun cdv A outer s H vs Q E hr h => ?_)
  · obtain ⟨a, ns, rfl, hS, hl, k⟩ := h; rfl
  · obtain ⟨a, ns, rfl, hS, hl, k⟩ := h
    refine ⟨_, (pss_cons (ps_set (i := 2) sc_Lpot.nd rfl (Or.inl rfl) (pe_op op_add (pe_op op_mulW pe_int (pv 1)) pe_int))
        (pss_cons (ps_if (pt_cmpR op_lt (pv 1) (pe_callB call_len_list (by rfl) T.m_len (by decide +kernel) (pa_cons (pv 0) pa_nil)) (nomark _))
          (pss_one (ps_set (i := 2) sc_Lpot.nd rfl (Or.inl rfl) (pe_callB call_abs (by rfl) T.m_abs (by decide +kernel) (pa_cons (pe_ix ix_list (pv 0) (pv 1) (fun _ _ => rfl)) pa_nil))))
          pss_nil)
        (pss_one (ps_ret (pe_lst (pa_cons (pe_callB (call_max2 rfl) (by rfl) T.m_max (by decide +kernel) (pa_cons pe_int (pa_cons (pe_op op_sub (pv 2) (pe_op op_pow pe_int pe_int)) pa_nil))) (pa_cons (pe_op op_add (pe_op op_mod (pe_callTy call_int1i (by rfl) T.m_int (by decide +kernel) (pa_cons (pe_op op_add (pe_op op_mulW (pe_op op_mod (pe_callTy call_int1i (by rfl) T.m_int (by decide +kernel) (pa_cons (pv 2) pa_nil)) pe_int) (pe_op op_add (pe_op op_mulW pe_int (pv 1)) pe_int)) pe_int) pa_nil)) pe_int) pe_int) pa_nil))))))), ?_⟩
    clear hr
    walk_at "rd"
    refine iteD (fun h => ?_) (fun h => ?_)
    · obtain ⟨v, hv, hm⟩ := pick_at (xs := ns.map V.int) (d := 0) (by omega) (by omega)
      obtain ⟨z, _, rfl⟩ := List.mem_map.mp hm
      walk_at "rd"
      intro p hp
      exact k p _ hp (same_upd hp) ⟨_, _, upd_same, by split <;> omega, by omega, by omega⟩
    · walk_at "rd"
      intro p hp
      exact k p _ hp (same_upd hp) ⟨_, _, upd_same, by split <;> omega, by omega, by omega⟩

theorem ok_Ldraw (T : Txt K mg) : FnOk P w K mg base CX0 1 T.f_Ldraw T.fd_Ldraw ["_law_pot_here", "_law_size"] (spDraw) := by
  refine T.F_Ldraw.ok sc_Ldraw (fun vs H Q E h => ?_) (fun cdv A outer s H vs Q E hr h => ?_)
  · obtain ⟨a, n, rfl, ⟨x, y, e, hx, hy, hy2⟩, hn, hn2, k⟩ := h; rfl
  · obtain ⟨a, n, rfl, ⟨x, y, e, hx, hy, hy2⟩, hn, hn2, k⟩ := h
    refine ⟨_, (pss_cons (ps_if (pt_cmpR op_gt (pe_ix ix_list (pv 0) pe_int (fun _ _ => rfl)) pe_int (nomark _))
          (pss_cons (ps_asg (pe_callB call_divmod (by rfl) T.m_divmod (by decide +kernel) (pa_cons (pe_ix ix_list (pv 0) pe_int (fun _ _ => rfl)) (pa_cons (pv 1) pa_nil))) (pg_tup rfl (pgs_cons (pg_sub (pv 0) pe_int set_list) (pgs_cons (pg_name (i := 2) sc_Ldraw.nd rfl (Or.inl rfl)) pgs_nil))))
          (pss_one (ps_ret (pv 2))))
          pss_nil)
        (pss_cons (ps_asg (pe_op op_mod (pe_callTy call_int1i (by rfl) T.m_int (by decide +kernel) (pa_cons (pe_op op_add (pe_op op_mulW (pe_ix ix_list (pv 0) pe_int (fun _ _ => rfl)) pe_int) pe_int) pa_nil)) pe_int) (pg_sub (pv 0) pe_int set_list))
        (pss_one (ps_ret (pe_op op_mod (pe_callTy call_int1i (by rfl) T.m_int (by decide +kernel) (pa_cons (pe_op op_fdiv (pe_op op_mod (pe_callTy call_int1i (by rfl) T.m_int (by decide +kernel) (pa_cons (pe_op op_mulW (pe_ix ix_list (pv 0) pe_int (fun _ _ => rfl)) (pe_ix ix_list (pv 0) pe_int (fun _ _ => rfl))) pa_nil)) pe_int) pe_int) pa_nil)) (pv 1)))))), ?_⟩
    clear hr
    walk_at "rd"
    refine iteD (fun h => ?_) (fun h => ?_)
    · walk_at "rd"
      intro p hp
      have ne : a ≠ p := fun z => by rw [← z, e] at hp; cases hp
      walk_at "rd"
      exact k (x % n) _ (Int.emod_nonneg _ (by omega)) (Int.emod_lt_of_pos _ hn) ⟨_, _, upd_same, Int.ediv_nonneg hx (by omega), hy, hy2⟩ (fun b o nb hb => by rw [upd_ne nb]; exact same_upd hp b o hb)
    · walk_at "rd"
      exact k _ _ (Int.emod_nonneg _ (by omega)) (Int.emod_lt_of_pos _ hn) ⟨_, _, upd_same, hx, by omega, by omega⟩ But.set
/-- called with the pot and a list apart: one of the list -/
def spPick : Sp := fun vs H Q _ => ∃ (a b : Addr) (xs : List V), vs = [.ref a, .ref b] ∧ Pot H a ∧ H b = some (.lst xs) ∧ b ≠ a ∧ 0 < xs.length ∧ xs.length < 1000 ∧ ∀ (v : V) (H' : Hp), v ∈ xs → Pot H' a → But a H H' → Q v H'
theorem ok_Lpick (T : Txt K mg) : FnOk P w K mg base CX0 2 T.f_Lpick T.fd_Lpick ["_law_pot_here", "_law_some"] (spPick) := by
  have G_Ldraw := ok_Ldraw (P := P) (w := w) (base := base) T
  refine T.F_Lpick.ok sc_Lpick (fun vs H Q E h => ?_) (fun cdv A outer s H vs Q E hr h => ?_)
  · obtain ⟨a, b, xs, rfl, hp, hb, ne, h0, hx, k⟩ := h; rfl
  · obtain ⟨a, b, xs, rfl, hp, hb, ne, h0, hx, k⟩ := h
    refine ⟨_, (pss_one (ps_ret (pe_ix ix_list (pv 1) (pe_call G_Ldraw (hr.mono (by decide)) rfl T.g_Ldraw T.F_Ldraw.kp T.b_Ldraw .nil pass0 (pa_cons (pv 0) (pa_cons (pe_callB call_len_list (by rfl) T.m_len (by decide +kernel) (pa_cons (pv 1) pa_nil)) pa_nil))) (fun _ _ => rfl)))), ?_⟩
    clear G_Ldraw
    clear hr
    walk_at "rd"
    intro d H' d0 d1 hp' bt
    obtain ⟨v, hv, hm⟩ := pick_at (xs := xs) d0 (by simpa using d1)
    have hb' := bt b _ ne hb
    walk_at "rd"
    exact k v H' hm hp' bt
def sp_refused (C : Addr) : Sp := fun vs H Q _ => ∃ (x n : Addr) (ns : List Int) (t : Nat), vs = [.ref x, .int 0] ∧ WhimsAt C H x n ns t ∧ ∀ H', Same H H' → Q (.bl true) H'
theorem ok_Lrefused (T : Txt K mg) : FnOk P w K mg base CX0 4 T.f_Lrefused T.fd_Lrefused ["_law_whims", "_law_many"] (sp_refused T.C_Whims) := by
  have G_Whims_takeX := ok_Whims_takeX (P := P) (w := w) (base := base) T
  refine T.F_Lrefused.ok sc_Lrefused (fun vs H Q E h => ?_) (fun cdv A outer s H vs Q E hr h => ?_)
  · obtain ⟨x, n, ns, t, rfl, hw, k⟩ := h; rfl
  · obtain ⟨x, n, ns, t, rfl, hw, k⟩ := h
    refine ⟨_, (pss_cons (ps_set (i := 2) sc_Lrefused.nd rfl (Or.inl rfl) pe_bl)
        (pss_cons (ps_try_only (Wout := fun _ _ _ _ => False) rfl rfl ⟨rfl, by decide, .inl T.g_InvalidMany⟩ takes0 (fun W pn xe tk _ => pss_one (ps_expr (by exact (pe_methA (pv 0) T.cl_Whims T.me_Whims_take G_Whims_takeX (hr.mono (by decide)) T.b_Whims_take (fun σ => passAt tk σ) (pa_cons (pv 1) pa_nil))))) (fun a oe cls d pn hz hf => pss_one (ps_set (i := 2) sc_Lrefused.nd rfl (Or.inl rfl) pe_bl)))
        (pss_one (ps_ret (pv 2))))), ?_⟩
    clear G_Whims_takeX
    clear hr
    obtain ⟨dx, hx⟩ := id hw.ob
    walk_at "rd"
    intro d H1 hd s1
    refine ⟨true, T.te_InvalidMany, fun _ a ha => ?_, fun z => nomatch z⟩
    walk_at "rd"
    exact k H1 s1
def sp_due : Sp := fun vs H Q _ => ∃ (a : Addr) (ns : List Int) (t : Nat) (m : Int), vs = [.ref a, .int (t : Int), .int m] ∧ H a = some (.lst (ns.map V.int)) ∧ 0 < m ∧ Q (.int (due ns t m)) H
theorem ok_Ldue (T : Txt K mg) : FnOk P w K mg base CX0 1 T.f_Ldue T.fd_Ldue ["_law_numbers", "_law_at", "_law_many"] (sp_due) := by
  refine T.F_Ldue.ok sc_Ldue (fun vs H Q E h => ?_) (fun cdv A outer s H vs Q E hr h => ?_)
  · obtain ⟨a, ns, t, m, rfl, ha, hm, k⟩ := h; rfl
  · obtain ⟨a, ns, t, m, rfl, ha, hm, k⟩ := h
    refine ⟨_, (pss_one (ps_ret (pe_ifExp (pt_cmpR op_lt (pv 1) (pe_callB call_len_list (by rfl) T.m_len (by decide +kernel) (pa_cons (pv 0) pa_nil)) (nomark _)) (pe_op op_mod (pe_ix ix_list (pv 0) (pv 1) (fun _ _ => rfl)) (pv 2)) pe_int))), ?_⟩
    clear hr
    walk_at "rd"
    refine iteD (fun h => ?_) (fun h => ?_)
    · have ht : t < ns.length := by simpa using h
      have hg : atI (ns.map V.int) (t : Int) = some (.int ns[t]) := atI_nat (by rw [List.getElem?_map, List.getElem?_eq_getElem ht]; rfl)
      walk_at "rd"
      exact qint k (by unfold due; rw [List.getElem?_eq_getElem ht])
    · have ht : ns.length ≤ t := by simp at h; omega
      walk_at "rd"
      exact qint k (by unfold due; rw [List.getElem?_eq_none ht])
end
end K12

set_option Elab.async false
set_option linter.all false
set_option maxRecDepth 100000
set_option maxHeartbeats 8000000

namespace K12
open PySem PySem.Spec PyProof.Rows L2 Hx 
local macro_rules | `(tactic| walk_at "sm") => `(tactic| repeat' (first | assumption | apply Hx.Same.upd | exact L2.Same.refl _ | apply same_trans'))
local macro_rules | `(tactic| walk_at "hp") => `(tactic| repeat' (first | assumption | exact upd_same | apply old_upd | apply same_at))
local macro_rules | `(tactic| walk_at "rd") => `(tactic| repeat' (first | rfl | apply Exists.intro | apply And.intro | refine iteT ?_ | refine iteF ?_ | exact upd_same | exact SqL.of (by assumption) | exact SqL.of upd_same | exact SqT.of upd_same | exact SqT.of (by assumption) | ((with_reducible show (_ : Int) < _); omega) | ((with_reducible show (_ : Int) ≤ _); omega) | (show (_ : Prop); assumption) | exact Or.inl ⟨_, by assumption, rfl⟩ | exact Or.inl ⟨rfl, _, SqL.of (by assumption)⟩ | exact Or.inl ⟨rfl, _, SqL.of upd_same⟩ | apply old_upd | apply Hx.SqL.new | apply tyl_new | apply Pot.new | exact same_at (by assumption) (by assumption) | exact Or.inl (SqL.of (by assumption)) | exact Or.inl (by assumption) | exact Or.inl (SqL.of upd_same) | exact size_le (Nat.le_of_ble_eq_true rfl) | exact Nat.le_of_ble_eq_true rfl | exact True.intro | exact Or.inl rfl | exact Or.inr rfl | (show (_ : Prop); omega) | (show (_ : Prop); dsimp only; omega) | exact mulw64 (by omega) (by omega) | exact mulw64 (by (try dsimp only); omega) (by (try dsimp only); omega)))

section
variable {P : Program} {w : World} {K : PySem.W.Frag} {mg : Str → Option Value} {base : Heap}
def sp_law (K : PySem.W.Frag) : Sp := fun vs H Q _ => ∃ (a : Addr) (ns : List Int), vs = [.ref a] ∧ SqL K H a (ns.map V.int) ∧ ns.length ≤ 63 ∧ ∀ H', Q (.bl true) H'
/-- one of those that are held: the whims, their numbers, the told rows' list, its tuples, the rows -/
structure Ent where
  x : Addr
  n : Addr
  l : Addr
  ts : List Addr
  rs : List (Int × Int)
theorem WhimsAt.same {C : Addr} {H H' : Hp} {x n : Addr} {ns : List Int} {t : Nat} (h : WhimsAt C H x n ns t) (s : Same H H') : WhimsAt C H' x n ns t := by
  obtain ⟨dx, e⟩ := h.ob
  exact ⟨⟨dx, s _ _ e⟩, s _ _ h.nu, h.ln, h.bd⟩
structure EntAt (C : Addr) (H : Hp) (ns : List Int) (F : List Addr) (tu : Addr) (e : Ent) : Prop where
  tup : H tu = some (.tup [.ref e.x, .int (e.rs.length : Int), .ref e.l])
  wh : WhimsAt C H e.x e.n ns e.rs.length
  li : H e.l = some (.lst (e.ts.map V.ref))
  len : e.ts.length = e.rs.length
  rows : ∀ (i : Nat) (t : Addr) (r : Int × Int), e.ts[i]? = some t → e.rs[i]? = some r → H t = some (.tup [.int r.1, .int r.2])
  du : ∀ (i : Nat) (r : Int × Int), e.rs[i]? = some r → 0 < r.1 ∧ r.2 = due ns i r.1
  nF : e.n ∉ F
  lF : e.l ∉ F
theorem EntAt.move {C : Addr} {H H' : Hp} {ns : List Int} {F : List Addr} {tu y : Addr} {e : Ent} (h : EntAt C H ns F tu e) (hF : ∀ f ∈ F, ∃ xs, H f = some (.lst xs)) (hy : ∃ C dx fs, H y = some (.ins C dx fs))
    (k : ∀ b o, b ∉ F → b ≠ y → H b = some o → H' b = some o) (ne : e.x ≠ y) : EntAt C H' ns F tu e := by
  obtain ⟨Cy, dy, fy, hy⟩ := hy
  have tF : ∀ {b : Addr} {xs : List V}, H b = some (.tup xs) → b ∉ F := fun {b xs} e hb => by
    obtain ⟨ys, e2⟩ := hF b hb
    rw [e] at e2; cases e2
  have iF : ∀ {b C dx : Addr} {fs : List (Str × V)}, H b = some (.ins C dx fs) → b ∉ F := fun {b C dx fs} e hb => by
    obtain ⟨ys, e2⟩ := hF b hb
    rw [e] at e2; cases e2
  have ty : ∀ {b : Addr} {xs : List V}, H b = some (.tup xs) → b ≠ y := fun {b xs} e z => by rw [z, hy] at e; cases e
  have ly : ∀ {b : Addr} {xs : List V}, H b = some (.lst xs) → b ≠ y := fun {b xs} e z => by rw [z, hy] at e; cases e
  obtain ⟨dx, hx⟩ := id h.wh.ob
  exact ⟨k _ _ (tF h.tup) (ty h.tup) h.tup, ⟨⟨dx, k _ _ (iF hx) ne hx⟩, k _ _ h.nF (ly h.wh.nu) h.wh.nu, h.wh.ln, h.wh.bd⟩, k _ _ h.lF (ly h.li) h.li, h.len,
    fun i t r h1 h2 => k _ _ (tF (h.rows i t r h1 h2)) (ty (h.rows i t r h1 h2)) (h.rows i t r h1 h2), h.du, h.nF, h.lF⟩
theorem EntAt.move0 {C : Addr} {H H' : Hp} {ns : List Int} {F : List Addr} {tu : Addr} {e : Ent} (h : EntAt C H ns F tu e) (hF : ∀ f ∈ F, ∃ xs, H f = some (.lst xs))
    (k : ∀ b o, b ∉ F → H b = some o → H' b = some o) : EntAt C H' ns F tu e := by
  have tF : ∀ {b : Addr} {xs : List V}, H b = some (.tup xs) → b ∉ F := fun {b xs} e hb => by
    obtain ⟨ys, e2⟩ := hF b hb
    rw [e] at e2; cases e2
  have iF : ∀ {b C dx : Addr} {fs : List (Str × V)}, H b = some (.ins C dx fs) → b ∉ F := fun {b C dx fs} e hb => by
    obtain ⟨ys, e2⟩ := hF b hb
    rw [e] at e2; cases e2
  obtain ⟨dx, hx⟩ := id h.wh.ob
  exact ⟨k _ _ (tF h.tup) h.tup, ⟨⟨dx, k _ _ (iF hx) hx⟩, k _ _ h.nF h.wh.nu, h.wh.ln, h.wh.bd⟩, k _ _ h.lF h.li, h.len,
    fun i t r h1 h2 => k _ _ (tF (h.rows i t r h1 h2)) (h.rows i t r h1 h2), h.du, h.nF, h.lF⟩
def rowD (r : Int × Int) : PyData := .tuple [.int r.1, .int r.2]
def rowsD (rs : List (Int × Int)) : PyData := .list (rs.map rowD)
theorem dp_rows {K : PySem.W.Frag} {H : Hp} : ∀ (ts : List Addr) (rs : List (Int × Int)), ts.length = rs.length → (∀ (i : Nat) (t : Addr) (r : Int × Int), ts[i]? = some t → rs[i]? = some r → H t = some (.tup [.int r.1, .int r.2])) → DpAll K H (ts.map V.ref) (rs.map rowD)
  | [], [], _, _ => .nil
  | t :: ts, r :: rs, hl, h => .cons (.tup (SqT.of (h 0 t r rfl rfl)) (.cons (.int _) (.cons (.int _) .nil))) (dp_rows ts rs (by simpa using hl) fun i t' r' h1 h2 => h (i + 1) t' r' (by simpa using h1) (by simpa using h2))
  | [], _ :: _, hl, _ => by simp at hl
  | _ :: _, [], hl, _ => by simp at hl
theorem rows_sh (rs : List (Int × Int)) : SeqAt.shaped (rowsD rs) = true := flat_sh (n := 2) (flat_list (n := 1) fun d hd => by
  obtain ⟨r, _, rfl⟩ := List.mem_map.mp hd
  exact flat_tup (n := 0) fun d hd => by
    simp at hd
    rcases hd with rfl | rfl <;> exact flat_int 0 _)
/-- what holds between two turns: p the pot, nu the numbers, x0 the first whims, hl what is held -/
structure Core (C : Addr) (H : Hp) (p nu x0 hl : Addr) (ns : List Int) (tus : List Addr) (es : List Ent) : Prop where
  pot : Pot H p
  num : H nu = some (.lst (ns.map V.int))
  held : H hl = some (.lst (tus.map V.ref))
  len : tus.length = es.length
  each : ∀ (i : Nat) (tu : Addr) (e : Ent), tus[i]? = some tu → es[i]? = some e → EntAt C H ns [p, hl] tu e
  nd : (es.map (·.x)).Nodup
  fst : ∃ e, es[0]? = some e ∧ e.x = x0
  most : es.length ≤ 4
  nuF : nu ∉ [p, hl]
  php : p ≠ hl
theorem Core.F {C : Addr} {H : Hp} {p nu x0 hl : Addr} {ns : List Int} {tus : List Addr} {es : List Ent} (c : Core C H p nu x0 hl ns tus es) : ∀ f ∈ [p, hl], ∃ xs, H f = some (.lst xs) := fun f hf => by
  simp only [List.mem_cons, List.not_mem_nil, or_false] at hf
  rcases hf with rfl | rfl
  · obtain ⟨x, y, e, _⟩ := c.pot.ex; exact ⟨_, e⟩
  · exact ⟨_, c.held⟩
theorem Core.drawn {C : Addr} {H H' : Hp} {p nu x0 hl : Addr} {ns : List Int} {tus : List Addr} {es : List Ent} (c : Core C H p nu x0 hl ns tus es) (hp : Pot H' p) (b : But p H H') : Core C H' p nu x0 hl ns tus es :=
  ⟨hp, b _ _ (fun z => c.nuF (by rw [z]; simp)) c.num, b _ _ (Ne.symm c.php) c.held, c.len, fun i tu e h1 h2 => (c.each i tu e h1 h2).move0 c.F fun q o hq ho => b q o (fun z => hq (by rw [z]; simp)) ho, c.nd, c.fst, c.most, c.nuF, c.php⟩
theorem Core.same {C : Addr} {H H' : Hp} {p nu x0 hl : Addr} {ns : List Int} {tus : List Addr} {es : List Ent} (c : Core C H p nu x0 hl ns tus es) (s : Same H H') : Core C H' p nu x0 hl ns tus es := c.drawn (c.pot.same s) (But.same s)
/-- one more is held -/
theorem Core.more {C : Addr} {H H' : Hp} {p nu x0 hl : Addr} {ns : List Int} {tus : List Addr} {es : List Ent} (c : Core C H p nu x0 hl ns tus es) {tu : Addr} {e : Ent} (he : EntAt C H ns [p, hl] tu e) (hx : ∀ e' ∈ es, e'.x ≠ e.x) (hm : es.length < 4)
    (hh : H' hl = some (.lst ((tus ++ [tu]).map V.ref))) (b : But hl H H') : Core C H' p nu x0 hl ns (tus ++ [tu]) (es ++ [e]) := by
  have k : ∀ q o, q ∉ [p, hl] → H q = some o → H' q = some o := fun q o hq ho => b q o (fun z => hq (by rw [z]; simp)) ho
  obtain ⟨x, y, ep, r⟩ := c.pot.ex
  refine ⟨⟨x, y, b _ _ c.php ep, r⟩, k _ _ c.nuF c.num, hh, by simp [c.len], fun i tu' e' h1 h2 => ?_, ?_, ?_, by simp; omega, c.nuF, c.php⟩
  · by_cases hi : i < es.length
    · rw [List.getElem?_append_left (by rw [c.len]; exact hi)] at h1
      rw [List.getElem?_append_left hi] at h2
      exact (c.each i tu' e' h1 h2).move0 c.F k
    · have e2 : i = es.length := by
        have := (List.getElem?_eq_some_iff.mp h2).1
        simp at this; omega
      subst e2
      rw [← c.len] at h1
      simp at h1 h2
      subst h1 h2
      exact he.move0 c.F k
  · rw [List.map_append, List.nodup_append]
    refine ⟨c.nd, by simp, fun a ha b' hb => ?_⟩
    obtain ⟨e', he', rfl⟩ := List.mem_map.mp ha
    simp at hb
    rw [hb]
    exact hx e' he'
  · obtain ⟨e0, h0, hx0⟩ := c.fst
    have : 0 < es.length := (List.getElem?_eq_some_iff.mp h0).1
    exact ⟨e0, by rw [List.getElem?_append_left this]; exact h0, hx0⟩
/-- the j-th is another -/
theorem Core.set {C : Addr} {H H1 H' : Hp} {p nu x0 hl : Addr} {ns : List Int} {tus : List Addr} {es : List Ent} (c : Core C H p nu x0 hl ns tus es) {j : Nat} {tu : Addr} {e e' : Ent} (hj : es[j]? = some e)
    (b1 : But e.x H H1) (he : EntAt C H1 ns [p, hl] tu e') (ex : e'.x = e.x)
    (hh : H' hl = some (.lst ((tus.map V.ref).set j (.ref tu)))) (b : But hl H1 H') : Core C H' p nu x0 hl ns (tus.set j tu) (es.set j e') := by
  have jl : j < es.length := (List.getElem?_eq_some_iff.mp hj).1
  obtain ⟨tuj, htj⟩ : ∃ t, tus[j]? = some t := ⟨_, List.getElem?_eq_getElem (by rw [c.len]; exact jl)⟩
  obtain ⟨dx, hx⟩ := id (c.each j tuj e htj hj).wh.ob
  have lx : ∀ {q : Addr} {xs : List V}, H q = some (.lst xs) → q ≠ e.x := fun {q xs} h z => by rw [z, hx] at h; cases h
  obtain ⟨x, y, ep, r⟩ := c.pot.ex
  have k : ∀ q o, q ∉ [p, hl] → q ≠ e.x → H q = some o → H' q = some o := fun q o hq hn ho => b q o (fun z => hq (by rw [z]; simp)) (b1 q o hn ho)
  have F1 : ∀ f ∈ [p, hl], ∃ xs, H1 f = some (.lst xs) := fun f hf => by
    obtain ⟨xs, e⟩ := c.F f hf
    exact ⟨xs, b1 _ _ (lx e) e⟩
  refine ⟨⟨x, y, b _ _ c.php (b1 _ _ (lx ep) ep), r⟩, k _ _ c.nuF (lx c.num) c.num, by rw [hh, List.map_set], by simp [c.len], fun i tu' e'' h1 h2 => ?_, ?_, ?_, by simpa using c.most, c.nuF, c.php⟩
  · by_cases hi : i = j
    · subst hi
      rw [List.getElem?_set_self (by rw [c.len]; exact jl)] at h1
      rw [List.getElem?_set_self jl] at h2
      obtain rfl := Option.some.inj h1
      obtain rfl := Option.some.inj h2
      exact he.move0 F1 fun q o hq ho => b q o (fun z => hq (by rw [z]; simp)) ho
    · rw [List.getElem?_set_ne (Ne.symm hi)] at h1 h2
      refine (c.each i tu' e'' h1 h2).move c.F ⟨_, _, _, hx⟩ k fun z => hi ?_
      exact nd_ix c.nd (x := e.x) (by rw [List.getElem?_map, h2, Option.map_some, z]) (by rw [List.getElem?_map, hj]; rfl)
  · have e2 : (es.set j e').map (·.x) = es.map (·.x) := by
      apply List.ext_getElem?
      intro i
      rw [List.getElem?_map, List.getElem?_map]
      by_cases hi : j = i
      · subst hi
        rw [List.getElem?_set_self jl, hj, Option.map_some, Option.map_some, ex]
      · rw [List.getElem?_set_ne hi]
    rw [e2]; exact c.nd
  · obtain ⟨e0, h0, hx0⟩ := c.fst
    by_cases hi : j = 0
    · subst hi
      rw [hj] at h0
      obtain rfl := Option.some.inj h0
      exact ⟨e', List.getElem?_set_self jl, by rw [ex, hx0]⟩
    · exact ⟨e0, by rw [List.getElem?_set_ne hi]; exact h0, hx0⟩
theorem ok_law (T : Txt K mg) : FnOk P w K mg base CX0 7 T.f_law T.fd_law ["_law_script"] (sp_law K) := by
  have G_Lpot := ok_Lpot (P := P) (w := w) (base := base) T
  have G_Lpick := ok_Lpick (P := P) (w := w) (base := base) T
  have G_Ldraw := ok_Ldraw (P := P) (w := w) (base := base) T
  have G_Whims_init := ok_Whims_init (P := P) (w := w) (base := base) T
  have G_Whims_copy := ok_Whims_copy (P := P) (w := w) (base := base) T
  have G_Whims_taken := ok_Whims_taken (P := P) (w := w) (base := base) T
  have G_Lrefused := ok_Lrefused (P := P) (w := w) (base := base) T
  have G_Whims_take := ok_Whims_take (P := P) (w := w) (base := base) T
  have G_Ldue := ok_Ldue (P := P) (w := w) (base := base) T
  refine T.F_law.ok sc_law (fun vs H Q E h => ?_) (fun cdv A outer s H vs Q E hr h => ?_)
  · obtain ⟨a, ns0, rfl, hS, hl0, k⟩ := h; rfl
  · obtain ⟨a, ns0, rfl, hS, hl0, k⟩ := h
    refine ⟨_, (pss_cons (ps_set (i := 1) sc_law.nd rfl (Or.inl rfl) (pe_call G_Lpot (hr.mono (by decide)) rfl T.g_Lpot T.F_Lpot.kp T.b_Lpot .nil pass0 (pa_cons (pv 0) (pa_cons pe_int pa_nil))))
        (pss_cons (ps_set (i := 2) sc_law.nd rfl (Or.inl rfl) (pe_lst pa_nil))
        (pss_cons (ps_forS PassesOwn.never rfl (pi_range1 rfl T.m_range (pa_cons (pe_call G_Ldraw (hr.mono (by decide)) rfl T.g_Ldraw T.F_Ldraw.kp T.b_Ldraw .nil pass0 (pa_cons (pv 1) (pa_cons pe_int pa_nil))) pa_nil)) (pg_name (i := 3) sc_law.nd rfl (Or.inl rfl))
          (pss_one (ps_expr (pe_bm PySem.F.plainAttrs_list PySem.F.slot_list_append PySem.F.type_list_append mt_append (pv 2) (pa_cons (pe_call G_Lpick (hr.mono (by decide)) rfl T.g_Lpick T.F_Lpick.kp T.b_Lpick .nil pass0 (pa_cons (pv 1) (pa_cons (pe_lst (pa_cons pe_int (pa_cons pe_int (pa_cons pe_int (pa_cons pe_int (pa_cons pe_int (pa_cons pe_int (pa_cons (pe_call G_Ldraw (hr.mono (by decide)) rfl T.g_Ldraw T.F_Ldraw.kp T.b_Ldraw .nil pass0 (pa_cons (pv 1) (pa_cons pe_int pa_nil))) pa_nil)))))))) pa_nil))) pa_nil)))))
        (pss_cons (ps_set (i := 4) sc_law.nd rfl (Or.inl rfl) (pe_callTy call_list_of (by rfl) T.m_list (by decide +kernel) (pa_cons (pv 2) pa_nil)))
        (pss_cons (ps_par (i := 5) (j := 6) rfl sc_law.nd rfl rfl (by decide) rfl rfl (pa_cons (pe_make T.mk_Whims G_Whims_init (hr.mono (by decide)) rfl T.g_Whims T.b_Whims_init .nil pass0 (pa_cons (pv 4) pa_nil)) (pa_cons (pe_lst pa_nil) pa_nil)) (by rfl))
        (pss_cons (ps_expr (pe_bm PySem.F.plainAttrs_list PySem.F.slot_list_append PySem.F.type_list_append mt_append (pv 4) (pa_cons pe_int pa_nil)))
        (pss_cons (ps_par (i := 7) (j := 8) rfl sc_law.nd rfl rfl (by decide) rfl rfl (pa_cons (pe_lst (pa_cons (pe_tup (pa_cons (pv 5) (pa_cons pe_int (pa_cons (pe_lst pa_nil) pa_nil)))) pa_nil)) (pa_cons pe_int pa_nil)) (by rfl))
        (pss_cons (ps_forS PassesOwn.never rfl (pi_range1 rfl T.m_range (pa_cons pe_int pa_nil)) (pg_name (i := 3) sc_law.nd rfl (Or.inl rfl))
          (pss_cons (ps_set (i := 9) sc_law.nd rfl (Or.inl rfl) (pe_call G_Ldraw (hr.mono (by decide)) rfl T.g_Ldraw T.F_Ldraw.kp T.b_Ldraw .nil pass0 (pa_cons (pv 1) (pa_cons (pe_callB call_len_list (by rfl) T.m_len (by decide +kernel) (pa_cons (pv 7) pa_nil)) pa_nil))))
          (pss_cons (ps_asg (pe_ix ix_list (pv 7) (pv 9) (fun _ _ => rfl)) (pg_tup rfl (pgs_cons (pg_name (i := 10) sc_law.nd rfl (Or.inl rfl)) (pgs_cons (pg_name (i := 8) sc_law.nd rfl (Or.inl rfl)) (pgs_cons (pg_name (i := 11) sc_law.nd rfl (Or.inl rfl)) pgs_nil)))))
          (pss_cons (ps_set (i := 12) sc_law.nd rfl (Or.inl rfl) (pe_call G_Ldraw (hr.mono (by decide)) rfl T.g_Ldraw T.F_Ldraw.kp T.b_Ldraw .nil pass0 (pa_cons (pv 1) (pa_cons pe_int pa_nil))))
          (pss_one (ps_if (PW.pt (pw_and (pt_cmpR op_eq (pv 12) pe_int (nomark _)) (pw_and1 (pt_cmpR op_lt (pe_callB call_len_list (by rfl) T.m_len (by decide +kernel) (pa_cons (pv 7) pa_nil)) pe_int (nomark _)))))
            (pss_one (ps_expr (pe_bm PySem.F.plainAttrs_list PySem.F.slot_list_append PySem.F.type_list_append mt_append (pv 7) (pa_cons (pe_tup (pa_cons (pe_meth0 (pv 10) T.cl_Whims T.me_Whims_copy G_Whims_copy (hr.mono (by decide)) T.b_Whims_copy .nil pass0) (pa_cons (pv 8) (pa_cons (pe_callTy call_list_of (by rfl) T.m_list (by decide +kernel) (pa_cons (pv 11) pa_nil)) pa_nil)))) pa_nil))))
            (pss_one (ps_if (pt_cmpR op_eq (pv 12) pe_int (nomark _))
              (pss_one (ps_if (PW.pt (pw_or (pt_not (pt_val (pe_call G_Lrefused (hr.mono (by decide)) rfl T.g_Lrefused T.F_Lrefused.kp T.b_Lrefused .nil pass0 (pa_cons (pv 10) (pa_cons pe_int pa_nil))))) (pw_or1 (pt_cmpR op_ne (pe_prop (pv 10) T.cl_Whims T.p_Whims_taken G_Whims_taken (hr.mono (by decide)) T.b_Whims_taken .nil pass0 rfl) (pv 8) (nomark _)))))
                (pss_one (ps_ret pe_bl))
                pss_nil))
              (pss_cons (ps_set (i := 13) sc_law.nd rfl (Or.inl rfl) (pe_call G_Lpick (hr.mono (by decide)) rfl T.g_Lpick T.F_Lpick.kp T.b_Lpick .nil pass0 (pa_cons (pv 1) (pa_cons (pe_lst (pa_cons pe_int (pa_cons pe_int (pa_cons pe_int (pa_cons pe_int (pa_cons pe_int (pa_cons pe_int (pa_cons pe_int pa_nil)))))))) pa_nil))))
              (pss_cons (ps_set (i := 14) sc_law.nd rfl (Or.inl rfl) (pe_meth (pv 10) T.cl_Whims T.me_Whims_take G_Whims_take (hr.mono (by decide)) T.b_Whims_take .nil pass0 (pa_cons (pv 13) pa_nil)))
              (pss_cons (ps_if (PW.pt (pw_or (pt_cmpR op_ne (pv 14) (pe_call G_Ldue (hr.mono (by decide)) rfl T.g_Ldue T.F_Ldue.kp T.b_Ldue .nil pass0 (pa_cons (pv 2) (pa_cons (pv 8) (pa_cons (pv 13) pa_nil)))) (nomark _)) (pw_or1 (pt_cmpR op_ne (pe_prop (pv 10) T.cl_Whims T.p_Whims_taken G_Whims_taken (hr.mono (by decide)) T.b_Whims_taken .nil pass0 rfl) (pe_op op_add (pv 8) pe_int) (nomark _)))))
                (pss_one (ps_ret pe_bl))
                pss_nil)
              (pss_one (ps_asg (pe_tup (pa_cons (pv 10) (pa_cons (pe_op op_add (pv 8) pe_int) (pa_cons (pe_op op_cat (pv 11) (pe_lst (pa_cons (pe_tup (pa_cons (pv 13) (pa_cons (pv 14) pa_nil))) pa_nil))) pa_nil)))) (pg_sub (pv 7) (pv 9) set_list))))))))))))))
        (pss_cons (ps_forS PassesOwn.never rfl (pi_list (pv 7)) (pg_tup rfl (pgs_cons (pg_name (i := 10) sc_law.nd rfl (Or.inl rfl)) (pgs_cons (pg_name (i := 8) sc_law.nd rfl (Or.inl rfl)) (pgs_cons (pg_name (i := 11) sc_law.nd rfl (Or.inl rfl)) pgs_nil))))
          (pss_cons (ps_set (i := 15) sc_law.nd rfl (Or.inr rfl) (pe_make T.mk_Whims G_Whims_init (hr.mono (by decide)) rfl T.g_Whims T.b_Whims_init .nil pass0 (pa_cons (pe_callTy call_tuple_of (by rfl) T.m_tuple (by decide +kernel) (pa_cons (pv 2) pa_nil)) pa_nil)))
          (pss_cons (ps_setLc (i := 6) (own := [("_law_many", 13), ("_law_found", 14)]) (g := gTup _ 2 (gCons (gName 13) (gCons (gName 14) gNil)))  rfl sc_law.nd rfl rfl (sw_true rfl rfl rfl (by decide +kernel)) (pi_list (pv 11)) (blkOk_by (N := ["_law_script", "_law_pot_here", "_law_numbers", "_law_turn", "_law_handed", "_law_whims", "_law_rows", "_law_held", "_law_at", "_law_place", "_law_some", "_law_told", "_law_way", "_law_many", "_law_found", "_law_again"]) (sc := defScope s_law) (by decide +kernel)) (fun _ _ _ _ _ => pg_pair (i := 13) (j := 14) rfl sc_law.nd rfl rfl (Or.inl rfl) (Or.inl rfl)) (fun _ _ _ _ _ => pts_nil) (fun _ _ _ _ _ => (pe_tup (pa_cons (pv 13) (pa_cons (pe_methKA (pv 15) T.cl_Whims T.me_Whims_take G_Whims_take (hr.mono (by decide)) T.kb_Whims_take pass0 (pk_cons (pv 13) pk_nil)) pa_nil)))))
          (pss_one (ps_if (PW.pt (pw_or (pt_cmpR op_ne (pe_prop (pv 10) T.cl_Whims T.p_Whims_taken G_Whims_taken (hr.mono (by decide)) T.b_Whims_taken .nil pass0 rfl) (pv 8) (nomark _)) (pw_or (pt_cmpR (op_neS hr.units) (pv 6) (pv 11) (nomark _)) (pw_or1 (pt_cmpR op_ne (pe_prop (pv 15) T.cl_Whims T.p_Whims_taken G_Whims_taken (hr.mono (by decide)) T.b_Whims_taken .nil pass0 rfl) (pv 8) (nomark _))))))
            (pss_one (ps_ret pe_bl))
            pss_nil)))))
        (pss_one (ps_ret (pe_and (pe_cmpR op_eq (pe_meth (pe_meth0 (pv 5) T.cl_Whims T.me_Whims_copy G_Whims_copy (hr.mono (by decide)) T.b_Whims_copy .nil pass0) T.cl_Whims T.me_Whims_take G_Whims_take (hr.mono (by decide)) T.b_Whims_take .nil pass0 (pa_cons pe_int pa_nil)) (pe_call G_Ldue (hr.mono (by decide)) rfl T.g_Ldue T.F_Ldue.kp T.b_Ldue .nil pass0 (pa_cons (pv 2) (pa_cons (pe_ix ix_tup (pe_ix ix_list (pv 7) pe_int (fun _ _ => rfl)) pe_int (fun _ _ => rfl)) (pa_cons pe_int pa_nil)))) (nomark _)) (pe_one (pe_cmpR op_eq (pe_prop (pv 5) T.cl_Whims T.p_Whims_taken G_Whims_taken (hr.mono (by decide)) T.b_Whims_taken .nil pass0 rfl) (pe_ix ix_tup (pe_ix ix_list (pv 7) pe_int (fun _ _ => rfl)) pe_int (fun _ _ => rfl)) (nomark _))))))))))))))), ?_⟩
    clear G_Lpot G_Lpick G_Ldraw G_Whims_init G_Whims_copy G_Whims_taken G_Lrefused G_Whims_take G_Ldue
    clear hr
    walk_at "rd"
    intro p H1 n1 s1 hp
    walk_at "rd"
    intro nu nnu
    have hp2 := hp.new (o := .lst []) nnu
    have nuF : nu ≠ p := hp.ne nnu
    walk_at "rd"
    intro dm H2 dm0 dm1 hp3 b3
    have hnu : H2 nu = some (.lst []) := b3 _ _ nuF upd_same
    obtain ⟨m, rfl⟩ := Int.eq_ofNat_of_zero_le dm0
    walk_at "rd"
    refine ⟨for_range (n := m) (fun i σ H' => Stop (∃ (t3 : Option V) (ns : List Int), σ = [some (.ref a), some (.ref p), some (.ref nu), t3, none, none, none, none, none, none, none, none, none, none, none, none] ∧ Pot H' p ∧ H' nu = some (.lst (ns.map V.int)) ∧ ns.length = i ∧ ∀ z ∈ ns, 0 ≤ z ∧ z ≤ 1000000)) ⟨⟨none, [], rfl, hp3, hnu, rfl, fun z h => nomatch h⟩⟩ (fun i σ H' hi h => ?_) (fun σ H' h => ?_)⟩
    · obtain ⟨t3, ns, rfl, hp, hnu, hlen, hb⟩ := h.h
      walk_at "rd"
      intro d H3 d0 d1 hp3 b3
      have hnu := b3 _ _ nuF hnu
      walk_at "rd"
      intro q nq
      have nq' := hp3.ne nq
      walk_at "rd"
      intro v H4 hv hp4 b4
      have hnu := b4 _ _ nuF (old_upd nq hnu)
      obtain ⟨z, rfl, hz⟩ : ∃ z : Int, v = .int z ∧ (0 ≤ z ∧ z ≤ 1000000) := by
        simp only [List.mem_cons, List.not_mem_nil, or_false] at hv
        rcases hv with rfl | rfl | rfl | rfl | rfl | rfl | rfl <;> exact ⟨_, rfl, by omega⟩
      walk_at "rd"
      · exact size_lt (by simp; omega)
      walk_at "rd"
      obtain ⟨x, y, ep, r⟩ := hp4.ex
      refine ⟨⟨_, ns ++ [z], rfl, ⟨x, y, by rw [upd_ne (Ne.symm nuF)]; exact ep, r⟩, by rw [upd_same, List.map_append]; rfl, by simp [hlen], fun w hw => ?_⟩⟩
      rcases List.mem_append.mp hw with hw | hw
      · exact hb w hw
      · rw [List.mem_singleton.mp hw]; exact hz
    obtain ⟨t3, ns, rfl, hp, hnu, hlen, hb⟩ := h.h
    walk_at "rd"
    intro hd nhd
    have nuhd : nu ≠ hd := ne_of_none hnu nhd
    have hdp : hd ≠ p := hp.ne nhd
    walk_at "rd"
    intro x0 dx nx ndx nex
    have nx' : upd (upd H' hd (.lst (ns.map V.int))) dx (.own x0) x0 = none := by rw [upd_ne (Ne.symm nex)]; exact nx
    have nx0 : H' x0 = none := L2.Same.free (same_upd nhd) nx
    have sm : Same H' (upd (upd (upd H' hd (.lst (ns.map V.int))) dx (.own x0)) x0 (.ins T.C_Whims dx [])) := Hx.Same.upd (Hx.Same.upd (same_upd nhd) ndx) nx'
    have hdm : upd (upd (upd H' hd (.lst (ns.map V.int))) dx (.own x0)) x0 (.ins T.C_Whims dx []) hd = some (.lst (ns.map V.int)) := old_upd nx' (old_upd ndx upd_same)
    have q : Sq K (upd (upd (upd H' hd (.lst (ns.map V.int))) dx (.own x0)) x0 (.ins T.C_Whims dx [])) hd (ns.map V.int) := Or.inl hdm
    walk_at "rd"
    intro n0 H5 nn0 hw0 bt0
    have hdx : hd ≠ x0 := fun z => by rw [z] at nhd hdm; rw [upd_same] at hdm; cases hdm
    have s5 : Same H' H5 := fun b o e => bt0 b o (ne_of_none e nx0) (sm _ _ e)
    have hd5 : H5 hd = some (.lst (ns.map V.int)) := bt0 _ _ hdx hdm
    have n0hd : n0 ≠ hd := fun z => by rw [z, hdm] at nn0; cases nn0
    have n0p : n0 ≠ p := fun z => by
      obtain ⟨xp, yp, ep, _⟩ := (hp.same sm).ex
      rw [z, ep] at nn0; cases nn0
    walk_at "rd"
    intro rw1 nrw1
    walk_at "rd"
    · exact size_lt (by simp; omega)
    walk_at "rd"
    intro l0 nl0
    walk_at "rd"
    intro t0 nt0
    walk_at "rd"
    intro hl nhl
    have K6 : ∀ b o, b ≠ hd → H5 b = some o → upd (upd (upd (upd (upd H5 rw1 (.lst [])) hd (.lst (ns.map V.int ++ [.int 5]))) l0 (.lst [])) t0 (.tup [.ref x0, .int 0, .ref l0])) hl (.lst [.ref t0]) b = some o := fun b o nb e =>
      old_upd nhl (old_upd nt0 (old_upd nl0 (by rw [upd_ne nb]; exact old_upd nrw1 e)))
    have K5 : ∀ b o, b ≠ hd → H5 b = some o → upd (upd H5 rw1 (.lst [])) hd (.lst (ns.map V.int ++ [.int 5])) b = some o := fun b o nb e => by rw [upd_ne nb]; exact old_upd nrw1 e
    obtain ⟨xp, yp, ep, rp⟩ := (hp.same s5).ex
    have hnu5 := s5 _ _ hnu
    have pl0 : p ≠ l0 := ne_of_none (K5 _ _ (Ne.symm hdp) ep) nl0
    have php : p ≠ hl := ne_of_none (old_upd nt0 (old_upd nl0 (K5 _ _ (Ne.symm hdp) ep))) nhl
    have nuhl : nu ≠ hl := ne_of_none (old_upd nt0 (old_upd nl0 (K5 _ _ nuhd hnu5))) nhl
    have n0hl : n0 ≠ hl := ne_of_none (old_upd nt0 (old_upd nl0 (K5 _ _ n0hd hw0.nu))) nhl
    have l0hl : l0 ≠ hl := ne_of_none (old_upd nt0 upd_same) nhl
    obtain ⟨dx0, hx0⟩ := id hw0.ob
    have core0 : Core T.C_Whims (upd (upd (upd (upd (upd H5 rw1 (.lst [])) hd (.lst (ns.map V.int ++ [.int 5]))) l0 (.lst [])) t0 (.tup [.ref x0, .int 0, .ref l0])) hl (.lst [.ref t0])) p nu x0 hl ns [t0] [⟨x0, n0, l0, [], []⟩] := by
      refine ⟨⟨xp, yp, K6 _ _ (Ne.symm hdp) ep, rp⟩, K6 _ _ nuhd hnu5, upd_same, rfl, fun i tu e h1 h2 => ?_, by simp, ⟨_, rfl, rfl⟩, by simp, by simp; exact ⟨nuF, nuhl⟩, php⟩
      match i, h1, h2 with
      | 0, h1, h2 =>
        obtain rfl := Option.some.inj h1
        obtain rfl := Option.some.inj h2
        exact ⟨old_upd nhl upd_same, ⟨⟨dx0, K6 _ _ (fun z => hdx z.symm) hx0⟩, K6 _ _ n0hd hw0.nu, hw0.ln, hw0.bd⟩, old_upd nhl (old_upd nt0 upd_same), rfl, fun i t r h1 h2 => by simp at h1, fun i r h => by simp at h, by simp; exact ⟨n0p, n0hl⟩, by simp; exact ⟨Ne.symm pl0, l0hl⟩⟩
      | i + 1, h1, h2 => simp at h1
    walk_at "rd"
    refine ⟨for_range (n := 20) (fun i σ H' => Stop (∃ (t3 t6 t8 t9 t10 t11 t12 t13 t14 t15 : Option V) (tus : List Addr) (es : List Ent), σ = [some (.ref a), some (.ref p), some (.ref nu), t3, some (.ref hd), some (.ref x0), t6, some (.ref hl), t8, t9, t10, t11, t12, t13, t14, t15] ∧ Core T.C_Whims H' p nu x0 hl ns tus es ∧ ∀ e ∈ es, e.rs.length ≤ i)) ⟨⟨_, _, _, _, _, _, _, _, _, _, _, _, rfl, core0, fun e he => by rw [List.mem_singleton.mp he]; exact Nat.le_refl _⟩⟩ (fun i σ H' hi h => ?_) (fun σ H' h => ?_)⟩
    · obtain ⟨t3', t6, t8, t9, t10, t11, t12, t13, t14, t15, tus, es, rfl, c, bd⟩ := h.h
      clear h core0 K6 K5 hx0 l0hl n0hl nuhl php pl0 hnu5 rp ep nhl nt0 nl0 nrw1 n0p n0hd hd5 s5 hdx bt0 hw0 nn0 q hdm sm nx0 nx' nex ndx nx hdp nuhd nhd hb hnu hp nuF nnu hp2 b3 hp3 n1 s1 hS
      have hlh := c.held
      have hpp := c.pot
      have lm : (tus.map V.ref).length = es.length := by rw [List.length_map, c.len]
      have l4 := c.most
      have l1 : 0 < es.length := by
        obtain ⟨e0, h0, _⟩ := c.fst
        exact (List.getElem?_eq_some_iff.mp h0).1
      walk_at "rd"
      intro d Ha d0 d1 hpa ba
      have c := c.drawn hpa ba
      obtain ⟨j, rfl⟩ := Int.eq_ofNat_of_zero_le d0
      have hj : j < es.length := by omega
      obtain ⟨e, he⟩ : ∃ e, es[j]? = some e := ⟨_, List.getElem?_eq_getElem hj⟩
      obtain ⟨tu, htu⟩ : ∃ t, tus[j]? = some t := ⟨_, List.getElem?_eq_getElem (by rw [c.len]; exact hj)⟩
      have ea := c.each j tu e htu he
      have hlh := c.held
      have hat : atI (tus.map V.ref) (j : Int) = some (.ref tu) := atI_nat (by rw [List.getElem?_map, htu]; rfl)
      have htt : SqT K Ha tu [.ref e.x, .int (e.rs.length : Int), .ref e.l] := SqT.of ea.tup
      walk_at "rd"
      intro w Hb w0 w1 hpb bb
      have c := c.drawn hpb bb
      have ea := c.each j tu e htu he
      have hlh := c.held
      have wh := ea.wh
      obtain ⟨dxe, hxe0⟩ := id wh.ob
      walk_at "rd"
      refine iteD (fun hw0 => ?_) (fun hw0 => ?_)
      · walk_at "rd"
        refine iteD (fun hw1 => ?_) (fun hw1 => ?_)
        · skip
          walk_at "rd"
          intro x' n' Hc nx' nn' hw' sc
          have hli := sc _ _ ea.li
          have hlc := sc _ _ hlh
          walk_at "rd"
          intro l nl
          walk_at "rd"
          intro q nq
          walk_at "rd"
          · exact size_lt (by omega)
          walk_at "rd"
          have S : Same Hb (upd (upd Hc l (.lst (e.ts.map V.ref))) q (.tup [.ref x', .int (e.rs.length : Int), .ref l])) := Hx.Same.upd (Hx.Same.upd sc nl) nq
          have hd2 : ∀ b o, Hb b = some o → b ≠ l := fun b o e => ne_of_none (sc _ _ e) nl
          obtain ⟨xp, yp, ep, _⟩ := c.pot.ex
          have en : EntAt T.C_Whims (upd (upd Hc l (.lst (e.ts.map V.ref))) q (.tup [.ref x', .int (e.rs.length : Int), .ref l])) ns [p, hl] q ⟨x', n', l, e.ts, e.rs⟩ := by
            have S2 := Hx.Same.upd (same_upd (o := .lst (e.ts.map V.ref)) nl) (o := .tup [.ref x', .int (e.rs.length : Int), .ref l]) nq
            refine ⟨upd_same, hw'.same S2, old_upd nq upd_same, ea.len, fun i t r h1 h2 => S _ _ (ea.rows i t r h1 h2), ea.du, ?_, ?_⟩
            · simp only [List.mem_cons, List.not_mem_nil, or_false, not_or]
              exact ⟨Ne.symm (ne_of_none ep nn'), Ne.symm (ne_of_none hlh nn')⟩
            · simp only [List.mem_cons, List.not_mem_nil, or_false, not_or]
              exact ⟨Ne.symm (hd2 _ _ ep), Ne.symm (hd2 _ _ hlh)⟩
          refine ⟨⟨_, _, _, _, _, _, _, _, _, _, tus ++ [q], es ++ [⟨x', n', l, e.ts, e.rs⟩], rfl, (c.same S).more en (fun e' he' => ?_) (by omega) (by rw [upd_same, List.map_append]; rfl) But.set, fun e' he' => ?_⟩⟩
          · obtain ⟨i', hi', hg⟩ := List.mem_iff_getElem.mp he'
            obtain ⟨t', ht'⟩ : ∃ t, tus[i']? = some t := ⟨_, List.getElem?_eq_getElem (by rw [c.len]; exact hi')⟩
            obtain ⟨dx', hx'⟩ := (c.each i' t' e' ht' (by rw [List.getElem?_eq_getElem hi', hg])).wh.ob
            exact ne_of_none hx' nx'
          · rcases List.mem_append.mp he' with h | h
            · exact Nat.le_succ_of_le (bd e' h)
            · rw [List.mem_singleton.mp h]; exact Nat.le_succ_of_le (bd e (List.mem_of_getElem? he))
        · walk_at "rd"
          refine iteD (fun h => absurd (V.int.inj (hw0.symm.trans h)) (by decide)) (fun _ => ?_)
          walk_at "rd"
          intro q nq
          have nqp := hpb.ne nq
          walk_at "rd"
          intro v Hd hv hpd bd1
          obtain ⟨mm, rfl, hmm⟩ : ∃ mm : Int, v = .int mm ∧ 0 < mm := by
            simp only [List.mem_cons, List.not_mem_nil, or_false] at hv
            rcases hv with rfl | rfl | rfl | rfl | rfl | rfl | rfl <;> exact ⟨_, rfl, by omega⟩
          have c := c.drawn hpd ((But.same (same_upd nq)).trans bd1)
          have ea := c.each j tu e htu he
          have wh := ea.wh
          obtain ⟨dx, hxe⟩ := id wh.ob
          have lx : ∀ {b : Addr} {xs : List V}, Hd b = some (.lst xs) → b ≠ e.x := fun {b xs} h z => by rw [z, hxe] at h; cases h
          walk_at "rd"
          intro He hwe be
          obtain ⟨dxf, hxf⟩ := id hwe.ob
          have hnu := be _ _ (lx c.num) c.num
          have hle := be _ _ (lx ea.li) ea.li
          have hhe := be _ _ (lx c.held) c.held
          walk_at "rd"
          refine iteN (fun h => absurd rfl h) (fun _ => ?_)
          walk_at "rd"
          refine iteN (fun h => absurd (congrArg V.int (by omega)) h) (fun _ => ?_)
          walk_at "rd"
          intro t nt
          walk_at "rd"
          intro b nb
          walk_at "rd"
          · exact size_le (by have := bd e (List.mem_of_getElem? he); simp; rw [ea.len]; omega)
          intro l nl
          walk_at "rd"
          intro tq ntq
          have hix : ixN (tus.map V.ref).length (j : Int) = some j := by
            unfold ixN
            rw [if_pos (by omega), if_pos (by omega), Int.toNat_natCast]
          walk_at "rd"
          have S4 : Same He (upd (upd (upd (upd He t (.tup [.int mm, .int (due ns e.rs.length mm)])) b (.lst [.ref t])) l (.lst (e.ts.map V.ref ++ [.ref t]))) tq (.tup [.ref e.x, .int ((e.rs.length : Int) + 1), .ref l])) := Hx.Same.upd (Hx.Same.upd (Hx.Same.upd (same_upd nt) nb) nl) ntq
          have nlE : ∀ b' o, He b' = some o → b' ≠ l := fun b' o h => ne_of_none (Hx.Same.upd (same_upd nt) nb _ _ h) nl
          obtain ⟨xp, yp, ep, _⟩ := c.pot.ex
          have en : EntAt T.C_Whims (upd (upd (upd (upd He t (.tup [.int mm, .int (due ns e.rs.length mm)])) b (.lst [.ref t])) l (.lst (e.ts.map V.ref ++ [.ref t]))) tq (.tup [.ref e.x, .int ((e.rs.length : Int) + 1), .ref l])) ns [p, hl] tq ⟨e.x, e.n, l, e.ts ++ [t], e.rs ++ [(mm, due ns e.rs.length mm)]⟩ := by
            have lr : (e.rs ++ [(mm, due ns e.rs.length mm)]).length = e.rs.length + 1 := by simp
            refine ⟨?_, ?_, ?_, by simp [ea.len], fun i' t' r h1 h2 => ?_, fun i' r h2 => ?_, ea.nF, ?_⟩
            · rw [upd_same, lr]; rfl
            · rw [lr]; exact hwe.same S4
            · rw [List.map_append]; exact old_upd ntq upd_same
            · by_cases hi' : i' < e.rs.length
              · rw [List.getElem?_append_left (by rw [ea.len]; exact hi')] at h1
                rw [List.getElem?_append_left hi'] at h2
                have z := ea.rows i' t' r h1 h2
                exact S4 _ _ (be _ _ (fun z' => by rw [z', hxe] at z; cases z) z)
              · have e2 : i' = e.rs.length := by
                  have := (List.getElem?_eq_some_iff.mp h2).1
                  simp at this; omega
                subst e2
                rw [← ea.len] at h1
                simp at h1 h2
                subst h1 h2
                exact old_upd ntq (old_upd nl (old_upd nb upd_same))
            · by_cases hi' : i' < e.rs.length
              · rw [List.getElem?_append_left hi'] at h2
                exact ea.du i' r h2
              · have e2 : i' = e.rs.length := by
                  have := (List.getElem?_eq_some_iff.mp h2).1
                  simp at this; omega
                subst e2
                simp at h2
                subst h2
                exact ⟨hmm, rfl⟩
            · simp only [List.mem_cons, List.not_mem_nil, or_false, not_or]
              exact ⟨Ne.symm (nlE _ _ (be _ _ (lx ep) ep)), Ne.symm (nlE _ _ hhe)⟩
          refine ⟨⟨_, _, _, _, _, _, _, _, _, _, tus.set j tq, es.set j ⟨e.x, e.n, l, e.ts ++ [t], e.rs ++ [(mm, due ns e.rs.length mm)]⟩, rfl, c.set he (fun q o n h => S4 _ _ (be q o n h)) en rfl upd_same But.set, fun e' he' => ?_⟩⟩
          rcases List.mem_or_eq_of_mem_set he' with h | h
          · exact Nat.le_succ_of_le (bd e' h)
          · rw [h]
            have := bd e (List.mem_of_getElem? he)
            simp; omega
      · walk_at "rd"
        refine iteD (fun hw2 => ?_) (fun hw2 => ?_)
        · walk_at "rd"
          intro Hc sc
          have c := c.same sc
          have wh := (c.each j tu e htu he).wh
          obtain ⟨dxr, hxr⟩ := id wh.ob
          walk_at "rd"
          refine iteN (fun h => absurd rfl h) (fun _ => ?_)
          walk_at "rd"
          exact ⟨⟨_, _, _, _, _, _, _, _, _, _, tus, es, rfl, c, fun e' he' => Nat.le_succ_of_le (bd e' he')⟩⟩
        · skip
          walk_at "rd"
          intro q nq
          have nqp := hpb.ne nq
          walk_at "rd"
          intro v Hd hv hpd bd1
          obtain ⟨mm, rfl, hmm⟩ : ∃ mm : Int, v = .int mm ∧ 0 < mm := by
            simp only [List.mem_cons, List.not_mem_nil, or_false] at hv
            rcases hv with rfl | rfl | rfl | rfl | rfl | rfl | rfl <;> exact ⟨_, rfl, by omega⟩
          have c := c.drawn hpd ((But.same (same_upd nq)).trans bd1)
          have ea := c.each j tu e htu he
          have wh := ea.wh
          obtain ⟨dx, hxe⟩ := id wh.ob
          have lx : ∀ {b : Addr} {xs : List V}, Hd b = some (.lst xs) → b ≠ e.x := fun {b xs} h z => by rw [z, hxe] at h; cases h
          walk_at "rd"
          intro He hwe be
          obtain ⟨dxf, hxf⟩ := id hwe.ob
          have hnu := be _ _ (lx c.num) c.num
          have hle := be _ _ (lx ea.li) ea.li
          have hhe := be _ _ (lx c.held) c.held
          walk_at "rd"
          refine iteN (fun h => absurd rfl h) (fun _ => ?_)
          walk_at "rd"
          refine iteN (fun h => absurd (congrArg V.int (by omega)) h) (fun _ => ?_)
          walk_at "rd"
          intro t nt
          walk_at "rd"
          intro b nb
          walk_at "rd"
          · exact size_le (by have := bd e (List.mem_of_getElem? he); simp; rw [ea.len]; omega)
          intro l nl
          walk_at "rd"
          intro tq ntq
          have hix : ixN (tus.map V.ref).length (j : Int) = some j := by
            unfold ixN
            rw [if_pos (by omega), if_pos (by omega), Int.toNat_natCast]
          walk_at "rd"
          have S4 : Same He (upd (upd (upd (upd He t (.tup [.int mm, .int (due ns e.rs.length mm)])) b (.lst [.ref t])) l (.lst (e.ts.map V.ref ++ [.ref t]))) tq (.tup [.ref e.x, .int ((e.rs.length : Int) + 1), .ref l])) := Hx.Same.upd (Hx.Same.upd (Hx.Same.upd (same_upd nt) nb) nl) ntq
          have nlE : ∀ b' o, He b' = some o → b' ≠ l := fun b' o h => ne_of_none (Hx.Same.upd (same_upd nt) nb _ _ h) nl
          obtain ⟨xp, yp, ep, _⟩ := c.pot.ex
          have en : EntAt T.C_Whims (upd (upd (upd (upd He t (.tup [.int mm, .int (due ns e.rs.length mm)])) b (.lst [.ref t])) l (.lst (e.ts.map V.ref ++ [.ref t]))) tq (.tup [.ref e.x, .int ((e.rs.length : Int) + 1), .ref l])) ns [p, hl] tq ⟨e.x, e.n, l, e.ts ++ [t], e.rs ++ [(mm, due ns e.rs.length mm)]⟩ := by
            have lr : (e.rs ++ [(mm, due ns e.rs.length mm)]).length = e.rs.length + 1 := by simp
            refine ⟨?_, ?_, ?_, by simp [ea.len], fun i' t' r h1 h2 => ?_, fun i' r h2 => ?_, ea.nF, ?_⟩
            · rw [upd_same, lr]; rfl
            · rw [lr]; exact hwe.same S4
            · rw [List.map_append]; exact old_upd ntq upd_same
            · by_cases hi' : i' < e.rs.length
              · rw [List.getElem?_append_left (by rw [ea.len]; exact hi')] at h1
                rw [List.getElem?_append_left hi'] at h2
                have z := ea.rows i' t' r h1 h2
                exact S4 _ _ (be _ _ (fun z' => by rw [z', hxe] at z; cases z) z)
              · have e2 : i' = e.rs.length := by
                  have := (List.getElem?_eq_some_iff.mp h2).1
                  simp at this; omega
                subst e2
                rw [← ea.len] at h1
                simp at h1 h2
                subst h1 h2
                exact old_upd ntq (old_upd nl (old_upd nb upd_same))
            · by_cases hi' : i' < e.rs.length
              · rw [List.getElem?_append_left hi'] at h2
                exact ea.du i' r h2
              · have e2 : i' = e.rs.length := by
                  have := (List.getElem?_eq_some_iff.mp h2).1
                  simp at this; omega
                subst e2
                simp at h2
                subst h2
                exact ⟨hmm, rfl⟩
            · simp only [List.mem_cons, List.not_mem_nil, or_false, not_or]
              exact ⟨Ne.symm (nlE _ _ (be _ _ (lx ep) ep)), Ne.symm (nlE _ _ hhe)⟩
          refine ⟨⟨_, _, _, _, _, _, _, _, _, _, tus.set j tq, es.set j ⟨e.x, e.n, l, e.ts ++ [t], e.rs ++ [(mm, due ns e.rs.length mm)]⟩, rfl, c.set he (fun q o n h => S4 _ _ (be q o n h)) en rfl upd_same But.set, fun e' he' => ?_⟩⟩
          rcases List.mem_or_eq_of_mem_set he' with h | h
          · exact Nat.le_succ_of_le (bd e' h)
          · rw [h]
            have := bd e (List.mem_of_getElem? he)
            simp; omega
    obtain ⟨t3', t6, t8, t9, t10, t11, t12, t13, t14, t15, tus, es, rfl, c, bd⟩ := h.h
    clear h core0 K6 K5 hx0 l0hl n0hl nuhl php pl0 hnu5 rp ep nhl nt0 nl0 nrw1 n0p n0hd hd5 s5 hdx bt0 hw0 nn0 q hdm sm nx0 nx' nex ndx nx hdp nuhd nhd hb hnu hp nuF nnu hp2 b3 hp3 n1 s1 hS
    have hlh := c.held
    walk_at "rd"
    refine ⟨for_list (xs := tus.map V.ref) (fun i σ H' => Stop (∃ (t3 t6 t8 t9 t10 t11 t12 t13 t14 t15 : Option V), σ = [some (.ref a), some (.ref p), some (.ref nu), t3, some (.ref hd), some (.ref x0), t6, some (.ref hl), t8, t9, t10, t11, t12, t13, t14, t15] ∧ Core T.C_Whims H' p nu x0 hl ns tus es)) ⟨⟨_, _, _, _, _, _, _, _, _, _, rfl, c⟩⟩ (fun i σ H' hi h => ?_) (fun i x σ H' hx h => ?_) (fun σ H' h => ?_)⟩
    · obtain ⟨t3', t6, t8, t9, t10, t11, t12, t13, t14, t15, rfl, c⟩ := h.h
      exact SqL.of c.held
    · obtain ⟨t3', t6, t8, t9, t10, t11, t12, t13, t14, t15, rfl, c⟩ := h.h
      rw [List.getElem?_map] at hx
      obtain ⟨tu, htu, rfl⟩ := Option.map_eq_some_iff.mp hx
      obtain ⟨e, he⟩ : ∃ e, es[i]? = some e := ⟨_, List.getElem?_eq_getElem (by have := (List.getElem?_eq_some_iff.mp htu).1; rw [c.len] at this; exact this)⟩
      have ea := c.each i tu e htu he
      have be := bd e (List.mem_of_getElem? he)
      have htt : SqT K H' tu [.ref e.x, .int (e.rs.length : Int), .ref e.l] := SqT.of ea.tup
      have hnu := c.num
      walk_at "rd"
      refine Or.inl ⟨SqL.of hnu, fun l nl => ?_⟩
      walk_at "rd"
      intro xa dxa nxa ndxa nexa
      have nxa' : upd (upd H' l (.tup (ns.map V.int))) dxa (.own xa) xa = none := by rw [upd_ne (Ne.symm nexa)]; exact nxa
      have sma : Same H' (upd (upd (upd H' l (.tup (ns.map V.int))) dxa (.own xa)) xa (.ins T.C_Whims dxa [])) := Hx.Same.upd (Hx.Same.upd (same_upd nl) ndxa) nxa'
      have nxaH : H' xa = none := L2.Same.free (same_upd nl) nxa
      have q : Sq K (upd (upd (upd H' l (.tup (ns.map V.int))) dxa (.own xa)) xa (.ins T.C_Whims dxa [])) l (ns.map V.int) := Or.inr (old_upd nxa' (old_upd ndxa upd_same))
      have ln := ea.wh.ln
      have bdn := ea.wh.bd
      walk_at "rd"
      intro na Hb nna hwa bta
      have sb : Same H' Hb := fun b o e' => bta b o (ne_of_none e' nxaH) (sma _ _ e')
      have hle := sb _ _ ea.li
      obtain ⟨dxa2, hxa2⟩ := id hwa.ob
      have Dn : ∀ {D : Addr}, Hb D = none → D ≠ xa ∧ na ≠ D := fun {D} h => ⟨Ne.symm (ne_of_none hxa2 h), ne_of_none hwa.nu h⟩
      walk_at "rd"
      intro D nD
      obtain ⟨Dx, nDa⟩ := Dn nD
      refine lc_list (xs := e.ts.map V.ref) (fun k H'' => Stop (∃ ts' : List Addr, H'' D = some (.lst (ts'.map V.ref)) ∧ ts'.length = k ∧ (∀ (i : Nat) (t : Addr) (r : Int × Int), ts'[i]? = some t → e.rs[i]? = some r → H'' t = some (.tup [.int r.1, .int r.2])) ∧ WhimsAt T.C_Whims H'' xa na ns k ∧ ∀ b o, b ≠ xa → Hb b = some o → H'' b = some o)) ⟨⟨[], upd_same, rfl, fun i t r h => by simp at h, hwa.same (same_upd nD), fun b o _ h => old_upd nD h⟩⟩ (fun k H'' _ h => ?_) (fun k x H'' hx h => ?_) (fun H'' h => ?_)
      · obtain ⟨ts', _, _, _, _, kb⟩ := h.h
        exact SqL.of (kb _ _ (ne_of_none ea.li nxaH) hle)
      · obtain ⟨ts', hD, lts, hrow, hwk, kb⟩ := h.h
        rw [List.getElem?_map] at hx
        obtain ⟨t, ht, rfl⟩ := Option.map_eq_some_iff.mp hx
        have kl : k < e.rs.length := by have := (List.getElem?_eq_some_iff.mp ht).1; rw [ea.len] at this; exact this
        obtain ⟨r, hr⟩ : ∃ r, e.rs[k]? = some r := ⟨_, List.getElem?_eq_getElem kl⟩
        obtain ⟨dr, du⟩ := ea.du k r hr
        have htr := kb _ _ (ne_of_none (ea.rows k t r ht hr) nxaH) (sb _ _ (ea.rows k t r ht hr))
        have htq : SqT K H'' t [.int r.1, .int r.2] := SqT.of htr
        obtain ⟨dxk, hxk⟩ := id hwk.ob
        walk_at "rd"
        intro Hc hwc btc
        have hD2 := btc _ _ Dx hD
        walk_at "rd"
        intro q nq
        walk_at "rd"
        · exact size_lt (by simp; omega)
        obtain ⟨dxc, hxc⟩ := id hwc.ob
        have kc : ∀ b o, b ≠ D → b ≠ xa → H'' b = some o → upd (upd Hc q (.tup [.int r.1, .int (due ns k r.1)])) D (.lst (ts'.map V.ref ++ [.ref q])) b = some o := fun b o n1 n2 h => by rw [upd_ne n1]; exact old_upd nq (btc b o n2 h)
        have qD : q ≠ D := Ne.symm (ne_of_none hD2 nq)
        refine ⟨⟨ts' ++ [q], by rw [upd_same, List.map_append]; rfl, by simp [lts], fun i' t' r' h1 h2 => ?_, ⟨⟨dxc, ?_⟩, ?_, ln, bdn⟩, fun b o nb h => kc b o (ne_of_none h nD) nb (kb b o nb h)⟩⟩
        · by_cases hi' : i' < k
          · rw [List.getElem?_append_left (by rw [lts]; exact hi')] at h1
            have z := hrow i' t' r' h1 h2
            exact kc _ _ (fun z' => by rw [z', hD] at z; cases z) (fun z' => by rw [z', hxk] at z; cases z) z
          · have e2 : i' = k := by
              have := (List.getElem?_eq_some_iff.mp h1).1
              simp at this; omega
            subst e2
            rw [← lts] at h1
            simp at h1
            subst h1
            rw [hr] at h2
            obtain rfl := Option.some.inj h2
            rw [upd_ne qD, upd_same, du]
        · rw [upd_ne (Ne.symm Dx)]; exact old_upd nq hxc
        · rw [upd_ne nDa]; exact old_upd nq hwc.nu
      · obtain ⟨ts', hD, lts, hrow, hwk, kb⟩ := h.h
        have S : Same H' H'' := fun b o h => kb b o (ne_of_none h nxaH) (sb b o h)
        have whe := ea.wh.same S
        obtain ⟨dxe, hxe⟩ := id whe.ob
        obtain ⟨dxk, hxk⟩ := id hwk.ob
        have dpD : Dp K H'' (.ref D) (rowsD e.rs) := .lst (SqL.of hD) (dp_rows ts' e.rs (by rw [lts, List.length_map, ea.len]) hrow)
        have dpT : Dp K H'' (.ref e.l) (rowsD e.rs) := .lst (SqL.of (S _ _ ea.li)) (dp_rows e.ts e.rs ea.len fun i t r h1 h2 => S _ _ (ea.rows i t r h1 h2))
        have shd := rows_sh e.rs
        walk_at "rd"
        refine iteN (fun h => absurd rfl h) (fun _ => ?_)
        walk_at "rd"
        refine iteN (fun h => absurd (congrArg V.int (by rw [List.length_map, ea.len])) h) (fun _ => ?_)
        walk_at "rd"
        exact ⟨⟨_, _, _, _, _, _, _, _, _, _, rfl, c.same S⟩⟩
    obtain ⟨t3', t6, t8, t9, t10, t11, t12, t13, t14, t15, rfl, c⟩ := h.h
    obtain ⟨e0, h0, rfl⟩ := c.fst
    obtain ⟨tu0, ht0⟩ : ∃ t, tus[0]? = some t := ⟨_, List.getElem?_eq_getElem (by rw [c.len]; exact (List.getElem?_eq_some_iff.mp h0).1)⟩
    have wh := (c.each 0 tu0 e0 ht0 h0).wh
    obtain ⟨dxe, hxe⟩ := id wh.ob
    walk_at "rd"
    intro x' n' Hc nx' nn' hw' sc
    obtain ⟨dx', hx'⟩ := id hw'.ob
    walk_at "rd"
    intro Hd hwd btd
    have S : Same H' Hd := fun b o h => btd b o (ne_of_none h nx') (sc b o h)
    have c2 := c.same S
    have hnu := c2.num
    have hlh := c2.held
    have hat0 : atI (tus.map V.ref) 0 = some (.ref tu0) := atI_nat (j := 0) (by rw [List.getElem?_map, ht0]; rfl)
    have ea2 := c2.each 0 tu0 e0 ht0 h0
    have htt : SqT K Hd tu0 [.ref e0.x, .int (e0.rs.length : Int), .ref e0.l] := SqT.of ea2.tup
    have wh2 := ea2.wh
    obtain ⟨dxg, hxg⟩ := id wh2.ob
    walk_at "rd"
    refine iteD (fun _ => ?_) (fun h => absurd rfl h)
    walk_at "rd"
    exact qbl (k _) (decide_eq_true rfl)
end
end K12

set_option Elab.async false
set_option linter.all false
set_option maxRecDepth 100000
set_option maxHeartbeats 8000000

namespace K12
open PySem PySem.Spec PyProof.Rows L2 Hx
theorem all_mk {l : PySem.W.OpenLaw} {w : World} {K : PySem.W.Frag} {h : Heap} {mg : Str → Option Value} {fa : Addr} (X : K.In h) (G : h.Ns mainGlobals mg) (hfa : mg "law" = some (.ref fa))
    {C_Whims : Addr}
    {C_InvalidMany : Addr} {nm_InvalidMany q_InvalidMany : Str} {N_InvalidMany : Addr} {bs_InvalidMany bm_InvalidMany : List Value} {sn_InvalidMany : List Str} {su_InvalidMany : List Value} {ab_InvalidMany : Bool} {co_InvalidMany : Option Bool} {dd_InvalidMany : Option Addr} {m0_InvalidMany m1_InvalidMany m2_InvalidMany m3_InvalidMany m5_InvalidMany : Option Value}
    {f_InvalidMany_init : Addr} {od_InvalidMany_init an_InvalidMany_init : Option Addr} {sl_InvalidMany_init : Array (Option Value)} {oc_InvalidMany_init kV_InvalidMany_init dc_InvalidMany_init pm_InvalidMany_init cd_InvalidMany_init ct_InvalidMany_init : Value}
    {f_is_integer : Addr} {od_is_integer an_is_integer : Option Addr} {sl_is_integer : Array (Option Value)} {oc_is_integer kV_is_integer dc_is_integer pm_is_integer cd_is_integer ct_is_integer : Value}
    {f_is_count : Addr} {od_is_count an_is_count : Option Addr} {sl_is_count : Array (Option Value)} {oc_is_count kV_is_count dc_is_count pm_is_count cd_is_count ct_is_count : Value}
    {f_is_between : Addr} {od_is_between an_is_between : Option Addr} {sl_is_between : Array (Option Value)} {oc_is_between kV_is_between dc_is_between pm_is_between cd_is_between ct_is_between : Value}
    {f_is_list : Addr} {od_is_list an_is_list : Option Addr} {sl_is_list : Array (Option Value)} {oc_is_list kV_is_list dc_is_list pm_is_list cd_is_list ct_is_list : Value}
    {f_Whims_init : Addr} {od_Whims_init an_Whims_init : Option Addr} {sl_Whims_init : Array (Option Value)} {oc_Whims_init kV_Whims_init dc_Whims_init pm_Whims_init cd_Whims_init ct_Whims_init : Value}
    {f_Whims_take : Addr} {od_Whims_take an_Whims_take : Option Addr} {sl_Whims_take : Array (Option Value)} {oc_Whims_take kV_Whims_take dc_Whims_take pm_Whims_take cd_Whims_take ct_Whims_take : Value}
    {f_Whims_taken : Addr} {od_Whims_taken an_Whims_taken : Option Addr} {sl_Whims_taken : Array (Option Value)} {oc_Whims_taken kV_Whims_taken dc_Whims_taken pm_Whims_taken cd_Whims_taken ct_Whims_taken : Value}
    {pa_Whims_taken : Addr} {pr_Whims_taken : List Value}
    {f_Whims_copy : Addr} {od_Whims_copy an_Whims_copy : Option Addr} {sl_Whims_copy : Array (Option Value)} {oc_Whims_copy kV_Whims_copy dc_Whims_copy pm_Whims_copy cd_Whims_copy ct_Whims_copy : Value}
    {f_are_whims : Addr} {od_are_whims an_are_whims : Option Addr} {sl_are_whims : Array (Option Value)} {oc_are_whims kV_are_whims dc_are_whims pm_are_whims cd_are_whims ct_are_whims : Value}
    {f_Lpot : Addr} {od_Lpot an_Lpot : Option Addr} {sl_Lpot : Array (Option Value)} {oc_Lpot kV_Lpot dc_Lpot pm_Lpot cd_Lpot ct_Lpot : Value}
    {f_Ldraw : Addr} {od_Ldraw an_Ldraw : Option Addr} {sl_Ldraw : Array (Option Value)} {oc_Ldraw kV_Ldraw dc_Ldraw pm_Ldraw cd_Ldraw ct_Ldraw : Value}
    {f_Lpick : Addr} {od_Lpick an_Lpick : Option Addr} {sl_Lpick : Array (Option Value)} {oc_Lpick kV_Lpick dc_Lpick pm_Lpick cd_Lpick ct_Lpick : Value}
    {f_Lrefused : Addr} {od_Lrefused an_Lrefused : Option Addr} {sl_Lrefused : Array (Option Value)} {oc_Lrefused kV_Lrefused dc_Lrefused pm_Lrefused cd_Lrefused ct_Lrefused : Value}
    {f_Ldue : Addr} {od_Ldue an_Ldue : Option Addr} {sl_Ldue : Array (Option Value)} {oc_Ldue kV_Ldue dc_Ldue pm_Ldue cd_Ldue ct_Ldue : Value}
    {f_law : Addr} {od_law an_law : Option Addr} {sl_law : Array (Option Value)} {oc_law kV_law dc_law pm_law cd_law ct_law : Value}
    {t__MOST_NUMBERS : Tok}
    {t__GREATEST : Tok}
    (aC_Whims : PySem.W.nsIn K mainGlobals "Whims" = some (some (.ref C_Whims))) (pg_Whims : PySem.W.plainGet K C_Whims Str.empty = true) (hd_Whims : PySem.W.hasDictIn K C_Whims = true) (po_Whims : PySem.W.plainOver K C_Whims = true) (sa_Whims : PySem.W.findIn K (.ref C_Whims) "__setattr__" = some (some (.builtin "object.__setattr__"))) (mk_Whims : PySem.W.makesIn K C_Whims = true) (kc_Whims : PySem.W.keepIn K (.ref C_Whims) = true)
    (n_Whims_numbers : PySem.W.findIn K (.ref C_Whims) "_numbers" = some none)
    (n_Whims_position : PySem.W.findIn K (.ref C_Whims) "_position" = some none)
    (aC_InvalidMany : PySem.W.nsIn K mainGlobals "InvalidMany" = some (some (.ref C_InvalidMany))) (xL_InvalidMany : K.lookup C_InvalidMany = some (excClassObj nm_InvalidMany q_InvalidMany C_InvalidMany N_InvalidMany bs_InvalidMany bm_InvalidMany true sn_InvalidMany su_InvalidMany ab_InvalidMany co_InvalidMany dd_InvalidMany m0_InvalidMany m1_InvalidMany m2_InvalidMany m3_InvalidMany m5_InvalidMany "ValueError.__new__")) (rv_InvalidMany : PySem.HandSPX.refsVE bm_InvalidMany = true) (sa_InvalidMany : PySem.W.findIn K (.ref C_InvalidMany) "__setattr__" = some (some (.builtin "object.__setattr__"))) (kc_InvalidMany : PySem.W.keepIn K (.ref C_InvalidMany) = true) (eC_InvalidMany : PySem.W.subIn K (.ref C_InvalidMany) (.type "BaseException") = some true) (tC_InvalidMany : PySem.W.typeIn K (.ref C_InvalidMany) = some (.type "type")) (iC_InvalidMany : PySem.W.isClsIn K C_InvalidMany = true) (sC_InvalidMany : PySem.W.subIn K (.ref C_InvalidMany) (.ref C_InvalidMany) = some true) (nv_InvalidMany : PySem.W.findIn K (.ref C_InvalidMany) "value" = some none)
    (a_InvalidMany_init : PySem.W.findIn K (.ref C_InvalidMany) "__init__" = some (some (.ref f_InvalidMany_init)))
    (ty_InvalidMany_init : PySem.W.typeIn K (.ref f_InvalidMany_init) = some (.type "function"))
    (l_InvalidMany_init : K.lookup f_InvalidMany_init = some ⟨oc_InvalidMany_init, od_InvalidMany_init, .func (PySem.W.fnOf "__init__" "InvalidMany.__init__" (defArgs s_InvalidMany_init) (defBody s_InvalidMany_init) (defScope s_InvalidMany_init) .none kV_InvalidMany_init dc_InvalidMany_init pm_InvalidMany_init an_InvalidMany_init cd_InvalidMany_init ct_InvalidMany_init), sl_InvalidMany_init⟩)
    (c_InvalidMany_init : PySem.W.codeIn K cd_InvalidMany_init "InvalidMany.__init__" = true) (k_InvalidMany_init : PySem.W.keepIn K (.ref f_InvalidMany_init) = true)
    (a_is_integer : PySem.W.nsIn K mainGlobals "is_integer" = some (some (.ref f_is_integer)))
    (l_is_integer : K.lookup f_is_integer = some ⟨oc_is_integer, od_is_integer, .func (PySem.W.fnOf "is_integer" "is_integer" (defArgs s_is_integer) (defBody s_is_integer) (defScope s_is_integer) .none kV_is_integer dc_is_integer pm_is_integer an_is_integer cd_is_integer ct_is_integer), sl_is_integer⟩)
    (c_is_integer : PySem.W.codeIn K cd_is_integer "is_integer" = true) (k_is_integer : PySem.W.keepIn K (.ref f_is_integer) = true)
    (a_is_count : PySem.W.nsIn K mainGlobals "is_count" = some (some (.ref f_is_count)))
    (l_is_count : K.lookup f_is_count = some ⟨oc_is_count, od_is_count, .func (PySem.W.fnOf "is_count" "is_count" (defArgs s_is_count) (defBody s_is_count) (defScope s_is_count) .none kV_is_count dc_is_count pm_is_count an_is_count cd_is_count ct_is_count), sl_is_count⟩)
    (c_is_count : PySem.W.codeIn K cd_is_count "is_count" = true) (k_is_count : PySem.W.keepIn K (.ref f_is_count) = true)
    (a_is_between : PySem.W.nsIn K mainGlobals "is_between" = some (some (.ref f_is_between)))
    (l_is_between : K.lookup f_is_between = some ⟨oc_is_between, od_is_between, .func (PySem.W.fnOf "is_between" "is_between" (defArgs s_is_between) (defBody s_is_between) (defScope s_is_between) .none kV_is_between dc_is_between pm_is_between an_is_between cd_is_between ct_is_between), sl_is_between⟩)
    (c_is_between : PySem.W.codeIn K cd_is_between "is_between" = true) (k_is_between : PySem.W.keepIn K (.ref f_is_between) = true)
    (a_is_list : PySem.W.nsIn K mainGlobals "is_list" = some (some (.ref f_is_list)))
    (l_is_list : K.lookup f_is_list = some ⟨oc_is_list, od_is_list, .func (PySem.W.fnOf "is_list" "is_list" (defArgs s_is_list) (defBody s_is_list) (defScope s_is_list) .none kV_is_list dc_is_list pm_is_list an_is_list cd_is_list ct_is_list), sl_is_list⟩)
    (c_is_list : PySem.W.codeIn K cd_is_list "is_list" = true) (k_is_list : PySem.W.keepIn K (.ref f_is_list) = true)
    (a_Whims_init : PySem.W.findIn K (.ref C_Whims) "__init__" = some (some (.ref f_Whims_init)))
    (i_Whims_init : PySem.W.isFn K (.ref f_Whims_init) = true)
    (l_Whims_init : K.lookup f_Whims_init = some ⟨oc_Whims_init, od_Whims_init, .func (PySem.W.fnOf "__init__" "Whims.__init__" (defArgs s_Whims_init) (defBody s_Whims_init) (defScope s_Whims_init) .none kV_Whims_init dc_Whims_init pm_Whims_init an_Whims_init cd_Whims_init ct_Whims_init), sl_Whims_init⟩)
    (c_Whims_init : PySem.W.codeIn K cd_Whims_init "Whims.__init__" = true) (k_Whims_init : PySem.W.keepIn K (.ref f_Whims_init) = true)
    (a_Whims_take : PySem.W.findIn K (.ref C_Whims) "take" = some (some (.ref f_Whims_take)))
    (i_Whims_take : PySem.W.isFn K (.ref f_Whims_take) = true)
    (l_Whims_take : K.lookup f_Whims_take = some ⟨oc_Whims_take, od_Whims_take, .func (PySem.W.fnOf "take" "Whims.take" (defArgs s_Whims_take) (defBody s_Whims_take) (defScope s_Whims_take) .none kV_Whims_take dc_Whims_take pm_Whims_take an_Whims_take cd_Whims_take ct_Whims_take), sl_Whims_take⟩)
    (c_Whims_take : PySem.W.codeIn K cd_Whims_take "Whims.take" = true) (k_Whims_take : PySem.W.keepIn K (.ref f_Whims_take) = true)
    (a_Whims_taken : PySem.W.findIn K (.ref C_Whims) "taken" = some (some (.ref pa_Whims_taken))) (pg_Whims_taken : PySem.W.specialIn K (.ref pa_Whims_taken) "__get__" = some (some (.builtin "property.__get__"))) (pt_Whims_taken : PySem.W.takesIn K (.ref pa_Whims_taken) = some true) (pq_Whims_taken : PySem.W.recIn K pa_Whims_taken "property" = some (.ref f_Whims_taken :: pr_Whims_taken))
    (l_Whims_taken : K.lookup f_Whims_taken = some ⟨oc_Whims_taken, od_Whims_taken, .func (PySem.W.fnOf "taken" "Whims.taken" (defArgs s_Whims_taken) (defBody s_Whims_taken) (defScope s_Whims_taken) .none kV_Whims_taken dc_Whims_taken pm_Whims_taken an_Whims_taken cd_Whims_taken ct_Whims_taken), sl_Whims_taken⟩)
    (c_Whims_taken : PySem.W.codeIn K cd_Whims_taken "Whims.taken" = true) (k_Whims_taken : PySem.W.keepIn K (.ref f_Whims_taken) = true)
    (a_Whims_copy : PySem.W.findIn K (.ref C_Whims) "copy" = some (some (.ref f_Whims_copy)))
    (i_Whims_copy : PySem.W.isFn K (.ref f_Whims_copy) = true)
    (l_Whims_copy : K.lookup f_Whims_copy = some ⟨oc_Whims_copy, od_Whims_copy, .func (PySem.W.fnOf "copy" "Whims.copy" (defArgs s_Whims_copy) (defBody s_Whims_copy) (defScope s_Whims_copy) .none kV_Whims_copy dc_Whims_copy pm_Whims_copy an_Whims_copy cd_Whims_copy ct_Whims_copy), sl_Whims_copy⟩)
    (c_Whims_copy : PySem.W.codeIn K cd_Whims_copy "Whims.copy" = true) (k_Whims_copy : PySem.W.keepIn K (.ref f_Whims_copy) = true)
    (a_are_whims : PySem.W.nsIn K mainGlobals "are_whims" = some (some (.ref f_are_whims)))
    (l_are_whims : K.lookup f_are_whims = some ⟨oc_are_whims, od_are_whims, .func (PySem.W.fnOf "are_whims" "are_whims" (defArgs s_are_whims) (defBody s_are_whims) (defScope s_are_whims) .none kV_are_whims dc_are_whims pm_are_whims an_are_whims cd_are_whims ct_are_whims), sl_are_whims⟩)
    (c_are_whims : PySem.W.codeIn K cd_are_whims "are_whims" = true) (k_are_whims : PySem.W.keepIn K (.ref f_are_whims) = true)
    (a_Lpot : PySem.W.nsIn K mainGlobals "_law_pot" = some (some (.ref f_Lpot)))
    (l_Lpot : K.lookup f_Lpot = some ⟨oc_Lpot, od_Lpot, .func (PySem.W.fnOf "_law_pot" "_law_pot" (defArgs s_Lpot) (defBody s_Lpot) (defScope s_Lpot) .none kV_Lpot dc_Lpot pm_Lpot an_Lpot cd_Lpot ct_Lpot), sl_Lpot⟩)
    (c_Lpot : PySem.W.codeIn K cd_Lpot "_law_pot" = true) (k_Lpot : PySem.W.keepIn K (.ref f_Lpot) = true)
    (a_Ldraw : PySem.W.nsIn K mainGlobals "_law_draw" = some (some (.ref f_Ldraw)))
    (l_Ldraw : K.lookup f_Ldraw = some ⟨oc_Ldraw, od_Ldraw, .func (PySem.W.fnOf "_law_draw" "_law_draw" (defArgs s_Ldraw) (defBody s_Ldraw) (defScope s_Ldraw) .none kV_Ldraw dc_Ldraw pm_Ldraw an_Ldraw cd_Ldraw ct_Ldraw), sl_Ldraw⟩)
    (c_Ldraw : PySem.W.codeIn K cd_Ldraw "_law_draw" = true) (k_Ldraw : PySem.W.keepIn K (.ref f_Ldraw) = true)
    (a_Lpick : PySem.W.nsIn K mainGlobals "_law_pick" = some (some (.ref f_Lpick)))
    (l_Lpick : K.lookup f_Lpick = some ⟨oc_Lpick, od_Lpick, .func (PySem.W.fnOf "_law_pick" "_law_pick" (defArgs s_Lpick) (defBody s_Lpick) (defScope s_Lpick) .none kV_Lpick dc_Lpick pm_Lpick an_Lpick cd_Lpick ct_Lpick), sl_Lpick⟩)
    (c_Lpick : PySem.W.codeIn K cd_Lpick "_law_pick" = true) (k_Lpick : PySem.W.keepIn K (.ref f_Lpick) = true)
    (a_Lrefused : PySem.W.nsIn K mainGlobals "_law_refused" = some (some (.ref f_Lrefused)))
    (l_Lrefused : K.lookup f_Lrefused = some ⟨oc_Lrefused, od_Lrefused, .func (PySem.W.fnOf "_law_refused" "_law_refused" (defArgs s_Lrefused) (defBody s_Lrefused) (defScope s_Lrefused) .none kV_Lrefused dc_Lrefused pm_Lrefused an_Lrefused cd_Lrefused ct_Lrefused), sl_Lrefused⟩)
    (c_Lrefused : PySem.W.codeIn K cd_Lrefused "_law_refused" = true) (k_Lrefused : PySem.W.keepIn K (.ref f_Lrefused) = true)
    (a_Ldue : PySem.W.nsIn K mainGlobals "_law_due" = some (some (.ref f_Ldue)))
    (l_Ldue : K.lookup f_Ldue = some ⟨oc_Ldue, od_Ldue, .func (PySem.W.fnOf "_law_due" "_law_due" (defArgs s_Ldue) (defBody s_Ldue) (defScope s_Ldue) .none kV_Ldue dc_Ldue pm_Ldue an_Ldue cd_Ldue ct_Ldue), sl_Ldue⟩)
    (c_Ldue : PySem.W.codeIn K cd_Ldue "_law_due" = true) (k_Ldue : PySem.W.keepIn K (.ref f_Ldue) = true)
    (a_law : PySem.W.nsIn K mainGlobals "law" = some (some (.ref f_law)))
    (l_law : K.lookup f_law = some ⟨oc_law, od_law, .func (PySem.W.fnOf "law" "law" (defArgs s_law) (defBody s_law) (defScope s_law) .none kV_law dc_law pm_law an_law cd_law ct_law), sl_law⟩)
    (c_law : PySem.W.codeIn K cd_law "law" = true) (k_law : PySem.W.keepIn K (.ref f_law) = true)
    (z_abs : PySem.W.nsIn K mainGlobals "abs" = some none)
    (z_all : PySem.W.nsIn K mainGlobals "all" = some none)
    (z_bool : PySem.W.nsIn K mainGlobals "bool" = some none)
    (z_divmod : PySem.W.nsIn K mainGlobals "divmod" = some none)
    (z_int : PySem.W.nsIn K mainGlobals "int" = some none)
    (z_isinstance : PySem.W.nsIn K mainGlobals "isinstance" = some none)
    (z_len : PySem.W.nsIn K mainGlobals "len" = some none)
    (z_list : PySem.W.nsIn K mainGlobals "list" = some none)
    (z_max : PySem.W.nsIn K mainGlobals "max" = some none)
    (z_range : PySem.W.nsIn K mainGlobals "range" = some none)
    (z_tuple : PySem.W.nsIn K mainGlobals "tuple" = some none)
    (x__MOST_NUMBERS : PySem.W.nsIn K mainGlobals "_MOST_NUMBERS" = some (some (.int 200 t__MOST_NUMBERS)))
    (x__GREATEST : PySem.W.nsIn K mainGlobals "_GREATEST" = some (some (.int 1000000 t__GREATEST)))
    : ∃ fd : FuncData, (∀ (s : Shared) (v : Value), BindsTo s fd ⟨[v], []⟩ [("_law_script", v)]) ∧ ∀ base : Heap, K.In base → base.Ns mainGlobals mg → FnOk l.prog w K mg base CX0 7 fa fd ["_law_script"] (sp_law K) := by
  have e := hfa.symm.trans (PySem.W.mg_of X G a_law)
  cases e
  let T : Txt K mg := {
    C_Whims := C_Whims, cl_Whims := ⟨pg_Whims, hd_Whims, po_Whims, sa_Whims⟩, g_Whims := PySem.W.mg_of X G aC_Whims,
    n_Whims_numbers := n_Whims_numbers,
    n_Whims_position := n_Whims_position,
    C_InvalidMany := C_InvalidMany, g_InvalidMany := PySem.W.mg_of X G aC_InvalidMany, ox_InvalidMany := ⟨⟨_, _, _, _, _, _, _, _, _, _, _, _, _, _, _, xL_InvalidMany, rv_InvalidMany⟩, sa_InvalidMany, eC_InvalidMany, tC_InvalidMany, kc_InvalidMany⟩, ov_InvalidMany := nv_InvalidMany, te_InvalidMany := exm_self eC_InvalidMany iC_InvalidMany tC_InvalidMany sC_InvalidMany,
    oi_InvalidMany := a_InvalidMany_init, ot_InvalidMany := ty_InvalidMany_init,
    f_InvalidMany_init := _, fd_InvalidMany_init := _, F_InvalidMany_init := fun_mk (st := s_InvalidMany_init) l_InvalidMany_init c_InvalidMany_init k_InvalidMany_init,
    b_InvalidMany_init := (fun_mk (st := s_InvalidMany_init) l_InvalidMany_init c_InvalidMany_init k_InvalidMany_init).binds (ps := ["self", "value"]) fun _ _ _ _ _ _ us hl => match us, hl with | [_, _], _ => rfl,
    f_is_integer := _, fd_is_integer := _, F_is_integer := fun_mk (st := s_is_integer) l_is_integer c_is_integer k_is_integer,
    g_is_integer := PySem.W.mg_of X G a_is_integer,
    b_is_integer := (fun_mk (st := s_is_integer) l_is_integer c_is_integer k_is_integer).binds (ps := ["value"]) fun _ _ _ _ _ _ us hl => match us, hl with | [_], _ => rfl,
    f_is_count := _, fd_is_count := _, F_is_count := fun_mk (st := s_is_count) l_is_count c_is_count k_is_count,
    g_is_count := PySem.W.mg_of X G a_is_count,
    b_is_count := (fun_mk (st := s_is_count) l_is_count c_is_count k_is_count).binds (ps := ["value"]) fun _ _ _ _ _ _ us hl => match us, hl with | [_], _ => rfl,
    f_is_between := _, fd_is_between := _, F_is_between := fun_mk (st := s_is_between) l_is_between c_is_between k_is_between,
    g_is_between := PySem.W.mg_of X G a_is_between,
    b_is_between := (fun_mk (st := s_is_between) l_is_between c_is_between k_is_between).binds (ps := ["value", "least", "most"]) fun _ _ _ _ _ _ us hl => match us, hl with | [_, _, _], _ => rfl,
    f_is_list := _, fd_is_list := _, F_is_list := fun_mk (st := s_is_list) l_is_list c_is_list k_is_list,
    g_is_list := PySem.W.mg_of X G a_is_list,
    b_is_list := (fun_mk (st := s_is_list) l_is_list c_is_list k_is_list).binds (ps := ["value"]) fun _ _ _ _ _ _ us hl => match us, hl with | [_], _ => rfl,
    mk_Whims := ⟨mk_Whims, a_Whims_init, i_Whims_init, kc_Whims⟩,
    f_Whims_init := _, fd_Whims_init := _, F_Whims_init := fun_mk (st := s_Whims_init) l_Whims_init c_Whims_init k_Whims_init,
    b_Whims_init := (fun_mk (st := s_Whims_init) l_Whims_init c_Whims_init k_Whims_init).binds (ps := ["self", "numbers"]) fun _ _ _ _ _ _ us hl => match us, hl with | [_, _], _ => rfl,
    me_Whims_take := ⟨a_Whims_take, i_Whims_take, k_Whims_take⟩,
    f_Whims_take := _, fd_Whims_take := _, F_Whims_take := fun_mk (st := s_Whims_take) l_Whims_take c_Whims_take k_Whims_take,
    b_Whims_take := (fun_mk (st := s_Whims_take) l_Whims_take c_Whims_take k_Whims_take).binds (ps := ["self", "many"]) fun _ _ _ _ _ _ us hl => match us, hl with | [_, _], _ => rfl,
    kb_Whims_take := kw_bindsM (fun_mk (st := s_Whims_take) l_Whims_take c_Whims_take k_Whims_take) (by decide) fun _ _ _ _ _ _ u us hl => match us, hl with | [_], _ => rfl,
    pa_Whims_taken := pa_Whims_taken, p_Whims_taken := ⟨a_Whims_taken, pg_Whims_taken, pt_Whims_taken, ⟨_, pq_Whims_taken⟩⟩,
    f_Whims_taken := _, fd_Whims_taken := _, F_Whims_taken := fun_mk (st := s_Whims_taken) l_Whims_taken c_Whims_taken k_Whims_taken,
    b_Whims_taken := (fun_mk (st := s_Whims_taken) l_Whims_taken c_Whims_taken k_Whims_taken).binds (ps := ["self"]) fun _ _ _ _ _ _ us hl => match us, hl with | [_], _ => rfl,
    me_Whims_copy := ⟨a_Whims_copy, i_Whims_copy, k_Whims_copy⟩,
    f_Whims_copy := _, fd_Whims_copy := _, F_Whims_copy := fun_mk (st := s_Whims_copy) l_Whims_copy c_Whims_copy k_Whims_copy,
    b_Whims_copy := (fun_mk (st := s_Whims_copy) l_Whims_copy c_Whims_copy k_Whims_copy).binds (ps := ["self"]) fun _ _ _ _ _ _ us hl => match us, hl with | [_], _ => rfl,
    f_are_whims := _, fd_are_whims := _, F_are_whims := fun_mk (st := s_are_whims) l_are_whims c_are_whims k_are_whims,
    g_are_whims := PySem.W.mg_of X G a_are_whims,
    b_are_whims := (fun_mk (st := s_are_whims) l_are_whims c_are_whims k_are_whims).binds (ps := ["value"]) fun _ _ _ _ _ _ us hl => match us, hl with | [_], _ => rfl,
    f_Lpot := _, fd_Lpot := _, F_Lpot := fun_mk (st := s_Lpot) l_Lpot c_Lpot k_Lpot,
    g_Lpot := PySem.W.mg_of X G a_Lpot,
    b_Lpot := (fun_mk (st := s_Lpot) l_Lpot c_Lpot k_Lpot).binds (ps := ["_law_script", "_law_k"]) fun _ _ _ _ _ _ us hl => match us, hl with | [_, _], _ => rfl,
    f_Ldraw := _, fd_Ldraw := _, F_Ldraw := fun_mk (st := s_Ldraw) l_Ldraw c_Ldraw k_Ldraw,
    g_Ldraw := PySem.W.mg_of X G a_Ldraw,
    b_Ldraw := (fun_mk (st := s_Ldraw) l_Ldraw c_Ldraw k_Ldraw).binds (ps := ["_law_pot_here", "_law_size"]) fun _ _ _ _ _ _ us hl => match us, hl with | [_, _], _ => rfl,
    f_Lpick := _, fd_Lpick := _, F_Lpick := fun_mk (st := s_Lpick) l_Lpick c_Lpick k_Lpick,
    g_Lpick := PySem.W.mg_of X G a_Lpick,
    b_Lpick := (fun_mk (st := s_Lpick) l_Lpick c_Lpick k_Lpick).binds (ps := ["_law_pot_here", "_law_some"]) fun _ _ _ _ _ _ us hl => match us, hl with | [_, _], _ => rfl,
    f_Lrefused := _, fd_Lrefused := _, F_Lrefused := fun_mk (st := s_Lrefused) l_Lrefused c_Lrefused k_Lrefused,
    g_Lrefused := PySem.W.mg_of X G a_Lrefused,
    b_Lrefused := (fun_mk (st := s_Lrefused) l_Lrefused c_Lrefused k_Lrefused).binds (ps := ["_law_whims", "_law_many"]) fun _ _ _ _ _ _ us hl => match us, hl with | [_, _], _ => rfl,
    f_Ldue := _, fd_Ldue := _, F_Ldue := fun_mk (st := s_Ldue) l_Ldue c_Ldue k_Ldue,
    g_Ldue := PySem.W.mg_of X G a_Ldue,
    b_Ldue := (fun_mk (st := s_Ldue) l_Ldue c_Ldue k_Ldue).binds (ps := ["_law_numbers", "_law_at", "_law_many"]) fun _ _ _ _ _ _ us hl => match us, hl with | [_, _, _], _ => rfl,
    f_law := _, fd_law := _, F_law := fun_mk (st := s_law) l_law c_law k_law,
    g_law := PySem.W.mg_of X G a_law,
    b_law := (fun_mk (st := s_law) l_law c_law k_law).binds (ps := ["_law_script"]) fun _ _ _ _ _ _ us hl => match us, hl with | [_], _ => rfl,
    m_abs := PySem.W.mg_none_of X G z_abs,
    m_all := PySem.W.mg_none_of X G z_all,
    m_bool := PySem.W.mg_none_of X G z_bool,
    m_divmod := PySem.W.mg_none_of X G z_divmod,
    m_int := PySem.W.mg_none_of X G z_int,
    m_isinstance := PySem.W.mg_none_of X G z_isinstance,
    m_len := PySem.W.mg_none_of X G z_len,
    m_list := PySem.W.mg_none_of X G z_list,
    m_max := PySem.W.mg_none_of X G z_max,
    m_range := PySem.W.mg_none_of X G z_range,
    m_tuple := PySem.W.mg_none_of X G z_tuple,
    c__MOST_NUMBERS := ⟨_, PySem.W.mg_of X G x__MOST_NUMBERS⟩,
    c__GREATEST := ⟨_, PySem.W.mg_of X G x__GREATEST⟩ }
  exact ⟨_, fun s v => .of_eq rfl, fun base _ _ => ok_law (P := l.prog) (w := w) (base := base) T⟩
theorem walk {l : PySem.W.OpenLaw} {q : Program} {loose : List Str} {XP : (Str → Option Value) → Heap → Prop} {YP : World → Heap → Prop} {d : DefRec} {K : Params → PySem.W.Frag} (hn : l.most = some 63) (hdf : d.params.defaults = [])
    (hY : ∀ (w : World) (h : Heap), YP w h → (K w.params).In h)
    (F : ∀ (w : World) (mg : Str → Option Value) (fa : Addr) (h : Heap), (K w.params).In h → h.Ns mainGlobals mg → mg d.name = some (.ref fa) →
      ∃ fd : FuncData, (∀ (s : Shared) (u : Value), BindsTo s fd ⟨[u], []⟩ [("_law_script", u)]) ∧ ∀ base : Heap, (K w.params).In base → base.Ns mainGlobals mg → FnOk l.prog w (K w.params) mg base CX0 7 fa fd ["_law_script"] (sp_law (K w.params))) :
    PySem.W.WalkO q loose XP YP l.row.toRowW d [] (fun f vs => PySem.call f vs) :=
  L2.walk_of (n := 63) (k := 7) (x := "_law_script") (CX := fun _ => CX0) (sp := fun w => sp_law (K w.params)) hn (by decide) hdf ⟨rfl, by decide, by decide⟩ hY F (fun _ _ a ns hl _ hS => ⟨a, ns, rfl, hS, hl, fun _ => rfl⟩) fun _ _ _ _ _ z => z
end K12
open PySem PySem.W PyProof.Rows
set_option maxRecDepth 100000 in
set_option maxHeartbeats 0 in
theorem PySem.Challenge.cw_orderlycore_k12_whole_whims_taken_holds : PySem.Challenge.rw_orderlycore_k12_whole_whims_taken.Holds := by
  w_on; o_law; k_head; (case hw => w_witness2)
  k_fill
  refine K12.walk (l := PySem.Challenge.rw_orderlycore_k12_whole_whims_taken) rfl rfl (fun w h Y => PySem.W.kIn_of Y) ?F
  case F =>
    intro w mg fa h KX G hmg
    refine' K12.all_mk KX G hmg ?aC_Whims ?pg_Whims ?hd_Whims ?po_Whims ?sa_Whims ?mk_Whims ?kc_Whims ?n_Whims_numbers ?n_Whims_position ?aC_InvalidMany ?xL_InvalidMany ?rv_InvalidMany ?sa_InvalidMany ?kc_InvalidMany ?eC_InvalidMany ?tC_InvalidMany ?iC_InvalidMany ?sC_InvalidMany ?nv_InvalidMany ?a_InvalidMany_init ?ty_InvalidMany_init ?l_InvalidMany_init ?c_InvalidMany_init ?k_InvalidMany_init ?a_is_integer ?l_is_integer ?c_is_integer ?k_is_integer ?a_is_count ?l_is_count ?c_is_count ?k_is_count ?a_is_between ?l_is_between ?c_is_between ?k_is_between ?a_is_list ?l_is_list ?c_is_list ?k_is_list ?a_Whims_init ?i_Whims_init ?l_Whims_init ?c_Whims_init ?k_Whims_init ?a_Whims_take ?i_Whims_take ?l_Whims_take ?c_Whims_take ?k_Whims_take ?a_Whims_taken ?pg_Whims_taken ?pt_Whims_taken ?pq_Whims_taken ?l_Whims_taken ?c_Whims_taken ?k_Whims_taken ?a_Whims_copy ?i_Whims_copy ?l_Whims_copy ?c_Whims_copy ?k_Whims_copy ?a_are_whims ?l_are_whims ?c_are_whims ?k_are_whims ?a_Lpot ?l_Lpot ?c_Lpot ?k_Lpot ?a_Ldraw ?l_Ldraw ?c_Ldraw ?k_Ldraw ?a_Lpick ?l_Lpick ?c_Lpick ?k_Lpick ?a_Lrefused ?l_Lrefused ?c_Lrefused ?k_Lrefused ?a_Ldue ?l_Ldue ?c_Ldue ?k_Ldue ?a_law ?l_law ?c_law ?k_law ?z_abs ?z_all ?z_bool ?z_divmod ?z_int ?z_isinstance ?z_len ?z_list ?z_max ?z_range ?z_tuple ?x__MOST_NUMBERS ?x__GREATEST
    (case aC_Whims => k_is)
    (case pg_Whims => k_is)
    (case hd_Whims => k_is)
    (case po_Whims => k_is)
    (case sa_Whims => k_is)
    (case mk_Whims => k_is)
    (case kc_Whims => k_is)
    (case n_Whims_numbers => k_is)
    (case n_Whims_position => k_is)
    (case aC_InvalidMany => k_is)
    (case xL_InvalidMany => k_is)
    (case rv_InvalidMany => decide +kernel)
    (case sa_InvalidMany => k_is)
    (case kc_InvalidMany => k_is)
    (case eC_InvalidMany => k_is)
    (case tC_InvalidMany => k_is)
    (case iC_InvalidMany => k_is)
    (case sC_InvalidMany => first | rfl | k_is)
    (case nv_InvalidMany => k_is)
    (case a_InvalidMany_init => k_is)
    (case ty_InvalidMany_init => k_is)
    (case l_InvalidMany_init => k_is)
    (case c_InvalidMany_init => k_is)
    (case k_InvalidMany_init => k_is)
    (case a_is_integer => k_is)
    (case l_is_integer => k_is)
    (case c_is_integer => k_is)
    (case k_is_integer => k_is)
    (case a_is_count => k_is)
    (case l_is_count => k_is)
    (case c_is_count => k_is)
    (case k_is_count => k_is)
    (case a_is_between => k_is)
    (case l_is_between => k_is)
    (case c_is_between => k_is)
    (case k_is_between => k_is)
    (case a_is_list => k_is)
    (case l_is_list => k_is)
    (case c_is_list => k_is)
    (case k_is_list => k_is)
    (case a_Whims_init => k_is)
    (case i_Whims_init => k_is)
    (case l_Whims_init => k_is)
    (case c_Whims_init => k_is)
    (case k_Whims_init => k_is)
    (case a_Whims_take => k_is)
    (case i_Whims_take => k_is)
    (case l_Whims_take => k_is)
    (case c_Whims_take => k_is)
    (case k_Whims_take => k_is)
    (case a_Whims_taken => k_is)
    (case pg_Whims_taken => k_is)
    (case pt_Whims_taken => k_is)
    (case pq_Whims_taken => k_is)
    (case l_Whims_taken => k_is)
    (case c_Whims_taken => k_is)
    (case k_Whims_taken => k_is)
    (case a_Whims_copy => k_is)
    (case i_Whims_copy => k_is)
    (case l_Whims_copy => k_is)
    (case c_Whims_copy => k_is)
    (case k_Whims_copy => k_is)
    (case a_are_whims => k_is)
    (case l_are_whims => k_is)
    (case c_are_whims => k_is)
    (case k_are_whims => k_is)
    (case a_Lpot => k_is)
    (case l_Lpot => k_is)
    (case c_Lpot => k_is)
    (case k_Lpot => k_is)
    (case a_Ldraw => k_is)
    (case l_Ldraw => k_is)
    (case c_Ldraw => k_is)
    (case k_Ldraw => k_is)
    (case a_Lpick => k_is)
    (case l_Lpick => k_is)
    (case c_Lpick => k_is)
    (case k_Lpick => k_is)
    (case a_Lrefused => k_is)
    (case l_Lrefused => k_is)
    (case c_Lrefused => k_is)
    (case k_Lrefused => k_is)
    (case a_Ldue => k_is)
    (case l_Ldue => k_is)
    (case c_Ldue => k_is)
    (case k_Ldue => k_is)
    (case a_law => k_is)
    (case l_law => k_is)
    (case c_law => k_is)
    (case k_law => k_is)
    (case z_abs => k_is)
    (case z_all => k_is)
    (case z_bool => k_is)
    (case z_divmod => k_is)
    (case z_int => k_is)
    (case z_isinstance => k_is)
    (case z_len => k_is)
    (case z_list => k_is)
    (case z_max => k_is)
    (case z_range => k_is)
    (case z_tuple => k_is)
    (case x__MOST_NUMBERS => k_is)
    (case x__GREATEST => k_is)

