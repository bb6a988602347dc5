import PyProof.Rows.All
import Wide.All
import OpenK.AllK
import Wide.FinOn
import PyProof.EqAt
import PyProof.EqKinds
import PyProof.TupleCall
import HandS.ForMost
import HandS.ForExc
import HandS.IsInst
import HandS.Conv
import HandS.Wide
import HandS.ExcInit
import HandS.ExcField
import HandS.ExcIs
import HandS.EndBits
import HandS.Evl
import HandS.Codes
import HandS.Steps
import KE.DataMinMax
import KE.KIsAll
import KE.KTryMore
import PySem.Challenge.RW_falseglim_k07_rounds_for_ever
set_option Elab.async false
set_option linter.all false
set_option maxRecDepth 100000
set_option maxHeartbeats 4000000
namespace Fg
open PySem PySem.Spec PyProof.Rows L2

/-! ### texts as lists of signs -/
def S (l : List Nat) : Str := ⟨l.toArray⟩
theorem S_len (l : List Nat) : (S l).length = l.length := by
  show l.toArray.size = l.length
  simp
theorem S_app (l m : List Nat) : S l ++ S m = S (l ++ m) := by
  show Str.append (S l) (S m) = S (l ++ m)
  unfold Str.append S
  simp
theorem S_cps (l : List Nat) : (S l).cps.toList = l := by simp [S]
theorem S_inj {l m : List Nat} (h : S l = S m) : l = m := by
  have h2 := congrArg (fun z : Str => z.cps.toList) h
  simpa [S_cps] using h2
theorem S_eq {l m : List Nat} : (S l = S m) ↔ l = m := ⟨S_inj, fun h => by rw [h]⟩
theorem S_of (z : Str) : ∃ l, z = S l := ⟨z.cps.toList, by cases z; simp [S]⟩
def cutL (l : List Nat) (lo hi : Option Int) : List Nat := (l.drop (HT.sIx l.length 0 lo)).take (HT.sIx l.length l.length hi - HT.sIx l.length 0 lo)
theorem S_cut (l : List Nat) (lo hi : Option Int) : cutS (S l) lo hi = S (cutL l lo hi) := by
  unfold cutS cutL
  rw [S_len, S_cps]
  rfl
theorem sIx_pos {n d : Nat} {i : Int} (h : 0 ≤ i) : HT.sIx n d (some i) = min i.toNat n := by
  show (if i < 0 then (i + (n : Int)).toNat else min i.toNat n) = _
  rw [if_neg (by omega)]
theorem cut_from {l : List Nat} {i : Int} (h : 0 ≤ i) : cutL l (some i) none = l.drop i.toNat := by
  unfold cutL
  rw [sIx_pos h, HT.sIx_none]
  by_cases h2 : i.toNat ≤ l.length
  · rw [Nat.min_eq_left h2]
    apply List.take_of_length_le
    rw [List.length_drop]
    omega
  · rw [Nat.min_eq_right (by omega), List.drop_eq_nil_of_le (by omega), List.drop_eq_nil_of_le (by omega), List.take_nil]
theorem cut_to {l : List Nat} {i : Int} (h : 0 ≤ i) : cutL l none (some i) = l.take i.toNat := by
  unfold cutL
  rw [sIx_pos h, HT.sIx_none]
  show List.take (min i.toNat l.length - 0) (List.drop 0 l) = _
  rw [List.drop_zero, Nat.sub_zero]
  by_cases h2 : i.toNat ≤ l.length
  · rw [Nat.min_eq_left h2]
  · rw [Nat.min_eq_right (by omega), List.take_of_length_le (Nat.le_refl _), List.take_of_length_le (by omega)]

/-! ### operations by signs -/
def rCatS : R2 := fun x y H Q => ∃ i j, x = .str (S i) ∧ y = .str (S j) ∧ i.length + j.length ≤ sizeLine ∧ Q (.str (S (i ++ j))) H
def rSlSS : V → Option Int → Option Int → Hp → VK → Prop := fun x lo hi H Q => ∃ l, x = .str (S l) ∧ l.length ≤ sizeLine ∧ Q (.str (S (cutL l lo hi))) H
def rIxSS : R2 := fun x y H Q => ∃ l i c, x = .str (S l) ∧ y = .int i ∧ l.length ≤ sizeLine ∧ atI l i = some c ∧ Q (.str (S [c])) H
def rNiS : R2 := fun x y H Q => ∃ (c : Nat) (l : List Nat), x = .str (S [c]) ∧ y = .str (S l) ∧ Q (.bl (!decide (c ∈ l))) H
def rInSS : R2 := fun x y H Q => ∃ (c : Nat) (l : List Nat), x = .str (S [c]) ∧ y = .str (S l) ∧ Q (.bl (decide (c ∈ l))) H
def rRepS : R2 := fun x y H Q => ∃ l k, x = .str (S l) ∧ y = .int k ∧ 0 ≤ k ∧ k < 2 ^ 62 ∧ l.length * k.toNat ≤ sizeLine ∧ Q (.str (S (List.replicate k.toNat l).flatten)) H
def CPowW (i j : Int) : Prop := 0 ≤ j ∧ (Builtin.Int.intBits i : Int) * j ≤ 2 ^ 27
def rLenS : List V → Hp → VK → Prop := fun xs H Q => ∃ l, xs = [.str (S l)] ∧ l.length ≤ sizeLine ∧ Q (.int l.length) H
def rLenQ (K : PySem.W.Frag) : List V → Hp → VK → Prop := fun xs H Q => ∃ p ys, xs = [.ref p] ∧ (SqL K H p ys ∨ SqT K H p ys) ∧ Q (.int ys.length) H
def rJoinS (K : PySem.W.Frag) : V → List V → Hp → VK → Prop := fun x xs H Q => ∃ a p, ∃ ys : List (List Nat), x = .str (S a) ∧ xs = [.ref p] ∧ (SqL K H p (ys.map fun l => V.str (S l)) ∨ SqT K H p (ys.map fun l => V.str (S l))) ∧
  (ys.map (·.length)).sum + ys.length * a.length ≤ 16777216 ∧ Q (.str (S (TL.joinL a ys))) H
section
variable {X : Cx}
theorem op_catS : OpR X (binaryOp .Add) rCatS := by
  intro pins s σ H x y v u Q I rx ry h
  obtain ⟨i, j, rfl, rfl, hl, q⟩ := h
  exact op_add_str pins s σ H _ _ v u Q I rx ry ⟨_, _, rfl, rfl, by rw [S_len, S_len]; exact hl, by rw [S_app]; exact q⟩
theorem sl_strS : SlR X rSlSS := by
  intro pins s σ H x v vl vu lo hi sl Q I rx hs pl pu h
  obtain ⟨l, rfl, hl, q⟩ := h
  exact sl_str pins s σ H _ v vl vu lo hi sl Q I rx hs pl pu ⟨_, rfl, by rw [S_len]; exact hl, by rw [S_cut]; exact q⟩
theorem ix_strS : IxR X rIxSS := by
  intro value slice pins s σ H x y v u Q I rx ry h hs
  obtain ⟨l, i, c, rfl, rfl, hl, ha, q⟩ := h
  exact ix_str value slice pins s σ H _ _ v u Q I rx ry ⟨_, _, c, rfl, rfl, by rw [S_len]; exact hl, by rw [S_cps]; exact ha, q⟩ hs
theorem op_niS : OpR X (compareOp .NotIn) rNiS := by
  intro pins s σ H x y v u Q I rx ry h
  obtain ⟨c, l, rfl, rfl, q⟩ := h
  exact op_notIn_sign pins s σ H _ _ v u Q I rx ry ⟨c, _, rfl, rfl, by rw [S_cps]; exact q⟩
theorem op_inSS : OpR X (compareOp .In) rInSS := by
  intro pins s σ H x y v u Q I rx ry h
  obtain ⟨c, l, rfl, rfl, q⟩ := h
  exact op_in_sign pins s σ H _ _ v u Q I rx ry ⟨c, _, rfl, rfl, by rw [S_cps]; exact q⟩
theorem op_powW : OpR X (binaryOp .Pow) (rI CPowW fun i j => .int (i ^ j.toNat)) := opI fun _ _ _ _ _ _ _ hc q => pow_int hc.1 hc.2 q
theorem call_lenS : CallR X (.builtin "len") rLenS := by
  intro pins s σ H xs us Q I r h
  obtain ⟨l, rfl, hl, q⟩ := h
  exact call_len pins s σ H _ us Q I r ⟨_, _, rfl, ⟨by rw [S_len]; exact hl, rfl⟩, by rw [S_len]; exact q⟩
theorem call_lenQ : CallR X (.builtin "len") (rLenQ X.K) := call_len_seq
theorem flat_arr (a : Array Nat) : ∀ (k : Nat) (acc : List Nat), (List.replicate k a).foldl (· ++ ·) acc.toArray = (acc ++ (List.replicate k a.toList).flatten).toArray
  | 0, acc => by simp
  | k + 1, acc => by
    rw [List.replicate_succ, List.foldl_cons]
    have e : acc.toArray ++ a = (acc ++ a.toList).toArray := by simp
    rw [e, flat_arr a k, List.replicate_succ]
    simp [List.append_assoc]
theorem op_repS : OpR X (binaryOp .Mult) rRepS := by
  intro pins s σ H x y v u Q I rx ry h
  obtain ⟨l, k, rfl, rfl, h0, h1, hz, q⟩ := h
  obtain ⟨t, rfl⟩ := rx
  obtain ⟨t2, rfl⟩ := ry
  have hs : sizeLine = 16777216 := sizeLine_eq
  have eL : (S l).length = l.length := S_len l
  have hlen : l.length ≤ 16777216 ∨ k < 1 := by
    by_cases hk : k < 1
    · exact .inr hk
    · left
      have : 1 ≤ k.toNat := by omega
      have := Nat.mul_le_mul_left l.length this
      omega
  refine PySem.P.mul_str (by
      have h2 : ¬ k ≥ 2 ^ 63 := by omega
      have h3 : ¬ k < -(2 ^ 63 : Int) := by omega
      rw [decide_eq_false h3, decide_eq_false h2]; rfl) (fun hk hx => ?_) (fun hk hx => ?_) ?_
  · rw [eL]
    have hl2 : l.length ≤ 16777216 := by omega
    have hk1 : 1 ≤ k := by omega
    have hm : (l.length : Int) * k ≤ 16777216 := by
      have e1 : ((l.length * k.toNat : Nat) : Int) = (l.length : Int) * k := by
        rw [Int.natCast_mul, Int.toNat_of_nonneg h0]
      have : ((l.length * k.toNat : Nat) : Int) ≤ 16777216 := by omega
      omega
    have h4 : (l.length : Int) ≤ (2 ^ 63 - 1) / k := by
      rw [Int.le_ediv_iff_mul_le (by omega)]
      omega
    omega
  · rw [eL]
    have : l.length * k.toNat ≤ 16777216 := by omega
    exact PyProof.Rows.short24 (by omega)
  · by_cases hk : k < 1
    · rw [if_pos hk]
      have ek : k.toNat = 0 := by omega
      rw [ek] at q
      exact ⟨by decide, ⟨.str (S []), H, I.tok _, ⟨_, rfl⟩, q⟩⟩
    · rw [if_neg hk]
      by_cases hx : (k == 1 || (S l).length == 0) = true
      · rw [if_pos hx]
        have e : (List.replicate k.toNat l).flatten = l := by
          rw [eL] at hx
          rcases (Bool.or_eq_true _ _).mp hx with h5 | h5
          · have : k = 1 := by simpa using h5
            subst this
            simp
          · have : l = [] := by
              have := by simpa using h5
              exact this
            subst this
            simp
        rw [e] at q
        exact ⟨.str (S l), H, I, ⟨_, rfl⟩, q⟩
      · rw [if_neg hx]
        have e : (⟨(List.replicate k.toNat (S l).cps).foldl (· ++ ·) #[]⟩ : Str) = S (List.replicate k.toNat l).flatten := by
          have := flat_arr (S l).cps k.toNat []
          rw [S_cps] at this
          unfold S at this ⊢
          simp only [List.nil_append] at this
          rw [← this]
        rw [e]
        refine ⟨?_, ⟨.str (S (List.replicate k.toNat l).flatten), H, I.tok _, ⟨_, rfl⟩, q⟩⟩
        rw [S_len, List.length_flatten, List.map_replicate, List.sum_replicate_nat]
        rw [Nat.mul_comm]
        exact hz
theorem op_repS' : OpR X (binaryOp .Mult) rRepS := op_repS
theorem mt_joinS : MtR X "str.join" (rJoinS X.K) := by
  intro pins s σ H x xs v us Q I rx rs h
  obtain ⟨a, p, ys, rfl, rfl, hp, hz, h⟩ := h
  have e1 : ys.map (fun l => V.str (S l)) = (ys.map SX.S).map V.str := by
    rw [List.map_map]; rfl
  have e2 : S (TL.joinL a ys) = Txt.join (SX.S a) (ys.map SX.S) := (SX.join_S a ys).symm
  rw [e1] at hp
  rw [e2] at h
  refine mt_join pins s σ H _ _ v us Q I rx rs ⟨SX.S a, p, ys.map SX.S, rfl, rfl, hp, ?_, h⟩
  rw [SX.lens, List.length_map, SX.S_len]
  exact hz
/-- min(xs), xs a list of texts -/
def rMinS (K : PySem.W.Frag) : List V → Hp → VK → Prop := fun vs H Q => ∃ (a : Addr) (ls : List (List Nat)), vs = [.ref a] ∧ SqL K H a (ls.map fun l => V.str (S l)) ∧ ls ≠ [] ∧
  ∀ m ∈ ls, (∀ y ∈ ls, ¬ y < m) → Q (.str (S m)) H
theorem dp_strs {K : PySem.W.Frag} {H : Hp} : ∀ ls : List (List Nat), DpAll K H (ls.map fun l => V.str (S l)) (ls.map fun l => PyData.str (S l))
  | [] => .nil
  | l :: r => .cons (.str _) (dp_strs r)
theorem minD_strs : ∀ (r : List (List Nat)) (m : List Nat), ∃ z, (z = m ∨ z ∈ r) ∧ (∀ y, y = m ∨ y ∈ r → ¬ y < z) ∧ (r.map fun l => PyData.str (S l)).foldl (fun a y => if PySem.W.dataLt y a then y else a) (.str (S m)) = .str (S z)
  | [], m => ⟨m, .inl rfl, (fun y hy => by
      rcases hy with rfl | hy
      · exact List.lt_irrefl _
      · cases hy), rfl⟩
  | y :: r, m => by
    rw [List.map_cons, List.foldl_cons, PySem.W.dataLt_str, S_cps, S_cps]
    by_cases h : y < m
    · rw [if_pos (decide_eq_true h)]
      obtain ⟨z, h1, h2, h3⟩ := minD_strs r y
      refine ⟨z, ?_, fun x hx => ?_, h3⟩
      · rcases h1 with h1 | h1
        · exact .inr (by rw [h1]; exact List.mem_cons_self ..)
        · exact .inr (List.mem_cons_of_mem _ h1)
      · rcases hx with rfl | hx
        · intro hlt
          exact h2 y (.inl rfl) (List.lt_trans h hlt)
        · rcases List.mem_cons.mp hx with rfl | hx
          · exact h2 _ (.inl rfl)
          · exact h2 _ (.inr hx)
    · rw [if_neg (by rw [decide_eq_false h]; decide)]
      obtain ⟨z, h1, h2, h3⟩ := minD_strs r m
      refine ⟨z, ?_, fun x hx => ?_, h3⟩
      · rcases h1 with h1 | h1
        · exact .inl h1
        · exact .inr (List.mem_cons_of_mem _ h1)
      · rcases hx with rfl | hx
        · exact h2 _ (.inl rfl)
        · rcases List.mem_cons.mp hx with rfl | hx
          · intro hlt
            have h4 := h2 m (.inl rfl)
            -- x < z, not m > x.. : z ≤ m ≤ x
            have h5 : z ≤ m := List.not_lt.mp h4
            have h6 : m ≤ x := List.not_lt.mp h
            exact absurd hlt (List.not_lt.mpr (List.le_trans h5 h6))
          · exact h2 _ (.inr hx)
theorem cr_minS (hc : X.calm = true) (hu : X.A.units + 64 < cLine) : CallR X (.builtin "min") (rMinS X.K) := by
  intro pins s σ H vs us Q I r h
  obtain ⟨a, ls, rfl, hs, hne, q⟩ := h
  obtain ⟨its, rv, hl, _⟩ := I.list hs
  rw [Vals.ref1 r]
  cases ls with
  | nil => exact absurd rfl hne
  | cons m r =>
    obtain ⟨as, hr⟩ := Dp.readsAll I _ _ _ (dp_strs (K := X.K) (H := H) (m :: r)) rv
    obtain ⟨z, h1, h2, h3⟩ := minD_strs r m
    have hd : ∀ ys : List (List Nat), PyData.depthAll (ys.map fun l => PyData.str (S l)) ≤ 1 := by
      intro ys
      induction ys with
      | nil => exact Nat.zero_le _
      | cons y ys ih => exact Nat.max_le.mpr ⟨by show PyData.depth (.str (S y)) ≤ 1; simp [PyData.depth], ih⟩
    refine PySem.W.min_list_data (I.ok.hd hc) (vs := its.toArray) hl.isList (by rw [List.toList_toArray]; exact hr) ?_ ?_ fun i v h' tk bs hv hb k => ?_
    · constructor
      · intro x hx y hy
        have hx' : x ∈ (m :: r).map fun l => PyData.str (S l) := hx
        have hy' : y ∈ (m :: r).map fun l => PyData.str (S l) := hy
        obtain ⟨p, _, rfl⟩ := List.mem_map.mp hx'
        obtain ⟨p2, _, rfl⟩ := List.mem_map.mp hy'
        rfl
      · intro x hx e
        have hx' : x ∈ (m :: r).map fun l => PyData.str (S l) := hx
        obtain ⟨p, _, rfl⟩ := List.mem_map.mp hx'
        cases e
    · have h9 : PyData.depthAll ((fun l => PyData.str (S l)) m :: List.map (fun l => PyData.str (S l)) r) ≤ 1 := hd (m :: r)
      omega
    · have e : PySem.W.minD (.str (S m)) (r.map fun l => PyData.str (S l)) = .str (S z) := h3
      rw [e] at hb
      cases hb
      refine ⟨.str (S z), H, I.kept k, ⟨_, rfl⟩, q z ?_ ?_⟩
      · rcases h1 with h1 | h1
        · rw [h1]; exact List.mem_cons_self ..
        · exact List.mem_cons_of_mem _ h1
      · intro y hy
        rcases List.mem_cons.mp hy with rfl | hy
        · exact h2 _ (.inl rfl)
        · exact h2 _ (.inr hy)
/-! ### enumerate(text) -/
def Iten (x : Str) : It :=
  ⟨fun i _ => i < x.cps.size, fun i H v H' => ∃ T c, v = .ref T ∧ H T = none ∧ H' = upd H T (.tup [.int (i : Nat), .str ⟨#[c]⟩]) ∧ x.cps[i]? = some c, fun i _ => x.cps.size ≤ i⟩
theorem turn_enumS {P : Program} {w : World} {K : PySem.W.Frag} {elts : List Expr} {kk : Nat} {tpos : Pos} (e it : Addr) (x : Str) (t : Tok) (ty : String) (hty : ty = "str_ascii_iterator" ∨ ty = "str_iterator") :
    Turn P w K (.Tuple elts kk tpos) (Iten x) [e, it] e (fun i h => (∃ old, IsEnum h e it ((i : Nat) : Int) old) ∧ h.IsStrIter it ty x t i ∧ e ≠ it ∧ i ≤ x.cps.size) where
  mem := by simp
  obj := fun i h st b hb => by
    obtain ⟨⟨old, he⟩, ⟨o, ho, hc, hd⟩, _⟩ := st
    have e' : b = e ∨ b = it := by simpa using hb
    rcases e' with z | z
    · rw [z]; exact ⟨_, he, fun v q => nomatch q⟩
    · rw [z]; exact ⟨o, ho, fun v q => by rw [hd] at q; cases q⟩
  keep := fun i h h' st k => let ⟨⟨old, he⟩, ⟨o, ho, r⟩, hne, hle⟩ := st; ⟨⟨old, k e (by simp) _ he⟩, ⟨o, k it (by simp) o ho, r⟩, hne, hle⟩
  item := by
    intro X hP hw hK hc i pins s σ H E I hf st hg
    subst hP hw hK
    obtain ⟨⟨old, he⟩, hit, hne, hle⟩ := st
    have hi : i < x.cps.size := hg
    have hel : e < s.heap.objs.size := Heap.lt_size he
    have hil : it < s.heap.objs.size := by obtain ⟨_, q, _⟩ := hit; exact Heap.lt_size q
    have D : Draws X.prog X.w X.A.in1 it [it] x.cps.size (fun i v => ∃ c u, x.cps[i]? = some c ∧ v = .str ⟨#[c]⟩ u) (fun i h => h.IsStrIter it ty x t i) := by
      rcases hty with e1 | e1
      · rw [e1]; exact Draws.strAscii (A := X.A.in1) (I.ok.hd hc) it x t
      · rw [e1]; exact Draws.strWide (A := X.A.in1) (I.ok.hd hc) it x t
    refine wpAny_pyNext_enum_itemD D he hit hi hne (by simpa using hne) fun u h' tk hv ho hit' hT hsz hk => ?_
    obtain ⟨c, u0, hc0, rfl⟩ := hv
    refine ⟨_, rfl, wpAny_letOwnedTupleGo_enum (s := { s with heap := h', toks := tk + 1 }) ho fun h'' he' sb => ?_⟩
    have hT2 : h''.get? s.heap.objs.size = some { cls := .type "tuple", data := .seq #[.int i tk, .str ⟨#[c]⟩ u0] } := (sb.2 _ (Nat.ne_of_gt hel)).trans hT
    have new : ObjOk X.prog X.w (upd H s.heap.objs.size (.tup [.int (i : Nat), .str ⟨#[c]⟩])) h'' s.heap.objs.size (.tup [.int (i : Nat), .str ⟨#[c]⟩]) :=
      ⟨by show 2 ≤ sizeLine; decide, [.int i tk, .str ⟨#[c]⟩ u0], .cons ⟨_, rfl⟩ (.cons ⟨_, rfl⟩ .nil), ⟨_, hT2, rfl, _, rfl⟩⟩
    have I1 : Inv X pins σ (upd H s.heap.objs.size (.tup [.int (i : Nat), .str ⟨#[c]⟩])) { s with heap := h'', toks := tk + 1 } :=
      I.turnedNew (ch := [e, it]) (fun b ob hb q => (sb.2 b (fun z => hb (by simp [z]))).trans (hk b ob (fun z => hb (by simp [z])) (fun z => hb (by simp [z])) q)) hf (Nat.le_refl _) new
    have hit2 : h''.IsStrIter it ty x t (i + 1) := by
      obtain ⟨o, ho, r⟩ := hit'
      exact ⟨o, (sb.2 it (Ne.symm hne)).trans ho, r⟩
    refine ⟨.ref s.heap.objs.size, _, I1, rfl, ⟨_, c, rfl, I.hok.fresh (Nat.le_refl _), rfl, hc0⟩, ⟨⟨.str ⟨#[c]⟩ u0, ?_⟩, hit2, hne, hi⟩, fun b hb => ?_⟩
    · have e1 : ((i + 1 : Nat) : Int) = (i : Int) + 1 := by omega
      rw [e1]; exact he'
    · have hb' : b < s.heap.objs.size := by
        have e' : b = e ∨ b = it := by simpa using hb
        rcases e' with z | z
        · rw [z]; exact hel
        · rw [z]; exact hil
      rw [upd_ne (Nat.ne_of_lt hb')]
      exact (hf b hb).1
  done := by
    intro X hP hw hK hc i pins s σ H E I hf st hg
    subst hP hw hK
    obtain ⟨⟨old, he⟩, hit, hne, hle⟩ := st
    have hi : x.cps.size ≤ i := hg
    obtain ⟨f0, f1, f2, f3, f4, f5⟩ := hf it (by simp)
    have D : Draws X.prog X.w X.A.in1 it [it] x.cps.size (fun i v => ∃ c u, x.cps[i]? = some c ∧ v = .str ⟨#[c]⟩ u) (fun i h => h.IsStrIter it ty x t i) := by
      rcases hty with e1 | e1
      · rw [e1]; exact Draws.strAscii (A := X.A.in1) (I.ok.hd hc) it x t
      · rw [e1]; exact Draws.strWide (A := X.A.in1) (I.ok.hd hc) it x t
    have e0 : i = x.cps.size := Nat.le_antisymm hle hi
    subst e0
    exact wpAny_pyNext_enum_endD D he hit fun h' eb => ⟨rfl, I.turned (t' := s.toks) (fun b o hb q => eb b o hb q) f0 f1 f3 f4 f5⟩
  self := fun A i s Q E st h => let ⟨⟨_, he⟩, _⟩ := st; wpAny_pyIter_enum he h
def iEnumS (ta : TA) : TI := fun σ H R => ta σ H fun vs H1 => ∃ l, vs = [.str (S l)] ∧ R (Iten (S l)) H1
theorem pi_enumS {e : Expr} {ta : TA} {p pos tpos : Pos} {elts : List Expr} {kk : Nat} (hg : Gl X "enumerate") (hm : X.mg "enumerate" = none) (ha : PA X [e] ta) (hs : starEach [e] X.env = [(false, eval e X.env)] := by rfl) :
    PI X (.Tuple elts kk tpos) (.Call (.Name "enumerate" p) [e] [] pos) (iEnumS ta) := by
  refine ⟨fun pins s σ H R I h => ?_⟩
  refine Call_ (ld_blt I hg hm boot_enumerate (PyProof.Rows.callWith_type1 (thn (ha.run pos pins s σ H _ I h) fun us s1 ⟨vs, H1, I1, r1, q1⟩ => ?_) hs rfl))
  obtain ⟨l, ex, q⟩ := q1
  subst ex
  cases r1 with
  | cons r rr =>
    cases rr
    obtain ⟨t, rfl⟩ := r
    refine call_enumerate_str fun h' he hit hsz hk => wpAny_pyIter_enum he ?_
    have I2 : Inv X pins σ H1 { s1 with heap := h' } := I1.kept (t' := s1.toks) hk
    have hty : strIterType (S l) = "str_ascii_iterator" ∨ strIterType (S l) = "str_iterator" := by
      unfold strIterType
      split
      · exact .inl rfl
      · exact .inr rfl
    refine ⟨s1.heap.objs.size + 1, [s1.heap.objs.size + 1, s1.heap.objs.size], _, _, H1, rfl, I2, turn_enumS (s1.heap.objs.size + 1) s1.heap.objs.size (S l) t _ hty, ⟨⟨.none, he⟩, hit, Nat.succ_ne_self _, Nat.zero_le _⟩, fun b hb => ?_, q⟩
    have e' : b = s1.heap.objs.size + 1 ∨ b = s1.heap.objs.size := by simpa using hb
    have hle : s1.heap.objs.size ≤ b := by
      rcases e' with z | z
      · rw [z]; exact Nat.le_add_right _ _
      · rw [z]; exact Nat.le_refl _
    exact I1.fpOk hle (I1.hok.fresh hle)
/-- for i, c in enumerate(text) -/
theorem for_enumS {l : List Nat} {g : TG} {tb : TS} {D : Ends} {σ : L2.St} {H : Hp} (Pv : Nat → L2.St → Hp → Prop) (h0 : Pv 0 σ H)
    (hs : ∀ i c σ H T, l[i]? = some c → Pv i σ H → H T = none → g (.ref T) σ (upd H T (.tup [.int (i : Nat), .str (S [c])])) fun σ2 H2 => tb { D with nx := Pv (i + 1), ct := Pv (i + 1), bk := D.nx } σ2 H2) (hd : ∀ σ H, Pv l.length σ H → D.nx σ H) :
    ∃ W : Nat → Nat → L2.St → Hp → Prop, (∃ m, W 0 m σ H) ∧ ∀ i m σ H, W i m σ H →
      ((Iten (S l)).stop i H ∧ D.nx σ H) ∨ ((Iten (S l)).go i H ∧ ∃ N : L2.St → Hp → Prop, (∀ σ' H', N σ' H' → ∃ m', m' < m ∧ W (i + 1) m' σ' H') ∧ ∀ x H', (Iten (S l)).yld i H x H' → g x σ H' fun σ2 H2 => tb { D with nx := N, ct := N, bk := D.nx } σ2 H2) := by
  have sz : (S l).cps.size = l.length := S_len l
  have gt : ∀ i : Nat, (S l).cps[i]? = l[i]? := fun i => by
    unfold S
    simp
  refine ⟨fun i m σ H => m = l.length - i ∧ i ≤ l.length ∧ Pv i σ H, ⟨l.length, by simp, Nat.zero_le _, h0⟩, ?_⟩
  rintro i m σ H ⟨rfl, hi, p⟩
  by_cases hlt : i < l.length
  · refine .inr ⟨by show i < (S l).cps.size; omega, Pv (i + 1), fun σ' H' p' => ⟨l.length - (i + 1), by omega, rfl, hlt, p'⟩, fun x H' y => ?_⟩
    obtain ⟨T, c, rfl, hT, rfl, hc⟩ := y
    rw [gt] at hc
    exact hs i c σ H T hc p hT
  · have e : i = l.length := by omega
    subst e
    exact .inl ⟨by show (S l).cps.size ≤ l.length; omega, hd σ H p⟩
end
end Fg

set_option Elab.async false
set_option linter.all false
set_option maxRecDepth 100000
set_option maxHeartbeats 4000000
namespace Fg
open PySem PySem.Spec PyProof.Rows L2

/-! ### heaps -/
abbrev Ex := Evl.Ex
def Kp (d : Addr) (H H' : Hp) : Prop := ∀ b o, b ≠ d → H b = some o → H' b = some o
theorem Kp.refl (d : Addr) (H : Hp) : Kp d H H := fun _ _ _ h => h
theorem Kp.trans {d : Addr} {H H1 H2 : Hp} (a : Kp d H H1) (b : Kp d H1 H2) : Kp d H H2 := fun c o n h => b c o n (a c o n h)
theorem Kp.of {d : Addr} {H H' : Hp} (e : Ex H H') : Kp d H H' := fun b o _ h => e b o h
theorem Kp.upd {d : Addr} {H : Hp} {o : HO} : Kp d H (upd H d o) := fun b u n h => by rw [upd_ne n]; exact h
theorem Kp.l {K : PySem.W.Frag} {d : Addr} {H H' : Hp} (e : Kp d H H') {a : Addr} {xs : List V} (n : a ≠ d) (h : SqL K H a xs) : SqL K H' a xs := by
  rcases h with (h | ⟨o, h⟩) | h
  · exact .inl (.inl (e _ _ n h))
  · exact .inl (.inr ⟨o, e _ _ n h⟩)
  · exact .inr h

/-! ### a def that can be called -/
structure Can (P : Program) (w : World) (K : PySem.W.Frag) (mg : Str → Option Value) (base : Heap) (CX : CXT) (k : Nat) (x : Str) (ps : List Str) (sp : Sp) : Prop where
  ex : ∃ (f : Addr) (fd : FuncData), FnOk P w K mg base CX k f fd ps sp ∧ mg x = some (.ref f) ∧ PySem.W.keepIn K (.ref f) = true ∧ Binds K fd ps []
/-- what the top has written of a def -/
structure Defd (K : PySem.W.Frag) (mg : Str → Option Value) (x : Str) (st : Stmt) (ps : List Str) : Prop where
  ex : ∃ (f : Addr) (fd : FuncData), Fun K x x st f fd ∧ mg x = some (.ref f) ∧ Binds K fd ps []
section
variable {P : Program} {w : World} {K : PySem.W.Frag} {mg : Str → Option Value} {base : Heap}
theorem can0 {x : Str} {st : Stmt} {N ps : List Str} {k : Nat} {sp : Sp} (F : Defd K mg x st ps) (S : FnScope N ps (defScope st)) (len : ∀ vs H Q E, sp vs H Q E → vs.length = ps.length)
    (hbody : ∀ (f : Addr) (cdv : Value) (A : Around) (outer : List Env) (s : Shared) (H : Hp) (vs : List V) (Q : VK) (E : XK), Room k (A.deeper (envOfC x (defScope st) s.heap.objs.size f cdv)) → sp vs H Q E →
      ∃ t, PSs (cxOf L2.CX0 P w K mg base N x (defScope st) f cdv A outer s H E).nox (defBody st) t ∧ t { nx := fun _ H' => Q .non H', rt := Q } (start N vs) H) : Can P w K mg base L2.CX0 (k + 1) x ps sp := by
  obtain ⟨f, fd, F, hm, b⟩ := F.ex
  exact ⟨f, fd, F.ok S len fun cdv A outer s H vs Q E hr h => hbody f cdv A outer s H vs Q E hr h, hm, F.kp, b⟩
theorem canX {x : Str} {st : Stmt} {N ps : List Str} {k : Nat} {sp : Sp} (F : Defd K mg x st ps) (S : FnScope N ps (defScope st)) (len : ∀ vs H Q E, sp vs H Q E → vs.length = ps.length)
    (hbody : ∀ (f : Addr) (cdv : Value) (A : Around) (outer : List Env) (s : Shared) (H : Hp) (vs : List V) (Q : VK) (E : XK), Room k (A.deeper (envOfC x (defScope st) s.heap.objs.size f cdv)) → sp vs H Q E →
      ∃ t, PSs (cxOf (L2.CX P w) P w K mg base N x (defScope st) f cdv A outer s H E) (defBody st) t ∧ t { nx := fun _ H' => Q .non H', rt := Q } (start N vs) H) : Can P w K mg base (L2.CX P w) (k + 1) x ps sp := by
  obtain ⟨f, fd, F, hm, b⟩ := F.ex
  exact ⟨f, fd, F.okX S len fun cdv A outer s H vs Q E hr h => hbody f cdv A outer s H vs Q E hr h, hm, F.kp, b⟩
end
theorem hu64 {k : Nat} {A : Around} (hr : Room k A) : A.units + 64 < cLine := by have := hr.un; omega
section
variable {X : Cx} {k j : Nat} {x : Str} {sp : Sp} {ps : List Str} {p pos : Pos} {e : Expr} {es : List Expr} {t : TA}
theorem pe_can (c : Can X.prog X.w X.K X.mg X.base L2.CX0 k x ps sp) (hr : Room j X.A) (hk : k ≤ j) (hg : Gl X x) (ha : PA X (e :: es) t)
    (hdb : (x == ("__debug__" : Str)) = false := by decide) (he : starEach (e :: es) X.env = (false, eval e X.env) :: starEach es X.env := by rfl) (hpl : (backTo pos (starEach es X.env)).any (·.1) = false := by rfl) :
    PE X (.Call (.Name x p) (e :: es) [] pos) (tCall sp [] L2.E0 t) := by
  obtain ⟨f, fd, F, hm, kp, b⟩ := c.ex
  exact pe_call F (hr.mono hk) hg hm kp b .nil L2.pass0 ha hdb he hpl
/-- a def that may raise, called by one that may -/
theorem pe_canX {E : XK} (c : Can X.prog X.w X.K X.mg X.base (L2.CX X.prog X.w) k x ps sp) (hr : Room j X.A) (hk : k ≤ j) (hg : Gl X x) (hx : Passes (L2.CX X.prog X.w) X E) (ha : PA X (e :: es) t)
    (hdb : (x == ("__debug__" : Str)) = false := by decide) (he : starEach (e :: es) X.env = (false, eval e X.env) :: starEach es X.env := by rfl) (hpl : (backTo pos (starEach es X.env)).any (·.1) = false := by rfl) :
    PE X (.Call (.Name x p) (e :: es) [] pos) (tCall sp [] E t) := by
  obtain ⟨f, fd, F, hm, kp, b⟩ := c.ex
  exact pe_call F (hr.mono hk) hg hm kp b .nil hx ha hdb he hpl
/-- .. called within a try -/
theorem pe_canS {E : L2.St → XK} (c : Can X.prog X.w X.K X.mg X.base (L2.CX X.prog X.w) k x ps sp) (hr : Room j X.A) (hk : k ≤ j) (hg : Gl X x) (hx : ∀ σ, PassesAt (L2.CX X.prog X.w) X σ (E σ)) (ha : PA X (e :: es) t)
    (hdb : (x == ("__debug__" : Str)) = false := by decide) (he : starEach (e :: es) X.env = (false, eval e X.env) :: starEach es X.env := by rfl) (hpl : (backTo pos (starEach es X.env)).any (·.1) = false := by rfl) :
    PE X (.Call (.Name x p) (e :: es) [] pos) (tCallS sp E t) := by
  obtain ⟨f, fd, F, hm, kp, b⟩ := c.ex
  exact pe_callS F (hr.mono hk) hg hm kp b hx ha hdb he hpl
end
theorem pe_strL {X : Cx} {x : Str} {j : Nat} {pos : Pos} (l : List Nat) (h : x = S l) : PE X (.Constant (.str x) j pos) (tC (.str (S l))) := by
  rw [← h]; exact pe_str
theorem Kp.free {d : Addr} {H H' : Hp} (e : Kp d H H') {D : Addr} (hd : H' d ≠ none) (h : H' D = none) : H D = none := by
  cases q : H D with
  | none => rfl
  | some o =>
    have n : D ≠ d := fun z => hd (by rw [← z]; exact h)
    rw [e D o n q] at h
    cases h
theorem Kp.mut {d D : Addr} {H H' : Hp} {o : HO} (e : Kp d H H') (h : H D = none) : Kp d H (L2.upd H' D o) := fun b u n hb => by
  rw [upd_ne (ne_of_none hb h)]
  exact e b u n hb
theorem Kp.new {d D : Addr} {H : Hp} {o : HO} (h : H D = none) : Kp d H (L2.upd H D o) := fun b u _ hb => by
  rw [upd_ne (ne_of_none hb h)]
  exact hb
/-- the built-ins' names stand for the built-ins -/
structure Bi (mg : Str → Option Value) : Prop where
  b_len : mg "len" = none
  b_int : mg "int" = none
  b_str : mg "str" = none
  b_bool : mg "bool" = none
  b_list : mg "list" = none
  b_tuple : mg "tuple" = none
  b_sum : mg "sum" = none
  b_abs : mg "abs" = none
  b_min : mg "min" = none
  b_max : mg "max" = none
  b_sorted : mg "sorted" = none
  b_all : mg "all" = none
  b_any : mg "any" = none
  b_isinstance : mg "isinstance" = none
  b_range : mg "range" = none
  b_enumerate : mg "enumerate" = none
  b_zip : mg "zip" = none
  b_ValueError : mg "ValueError" = none

/-! ### readings, one step each -/
section
variable {σ : L2.St} {H : Hp} {Q : VK} {D : Ends} {ta tb tc te : TE} {t u : TS} {c d : TT} {tl : TA} {i : Nat} {v x y : V} {r : R2} {K : PySem.W.Frag}
theorem r_seq (q : t { D with nx := u D } σ H) : tSeq t u D σ H := q
theorem r_asg {g : TG} (q : te σ H fun x H1 => g x σ H1 D.nx) : tAsg te g D σ H := q
theorem r_gname {Q : L2.St → Hp → Prop} (q : Q (σ.set i (some v)) H) : gName i v σ H Q := q
theorem r_gsub {s : TSet} {Q : L2.St → Hp → Prop} (q : ta σ H fun o H1 => tb σ H1 fun i H2 => s o i v H2 fun H3 => Q σ H3) : gSub ta tb s v σ H Q := q
theorem r_ret (q : te σ H D.rt) : tRet te D σ H := q
theorem r_retN (q : D.rt .non H) : tRetN D σ H := q
theorem r_next (q : D.nx σ H) : tNext D σ H := q
theorem r_drop (q : te σ H fun _ H1 => D.nx σ H1) : tDrop te D σ H := q
theorem r_ifS (q : c σ H fun b H1 => if b = true then t D σ H1 else u D σ H1) : tIfS c t u D σ H := q
theorem r_if (q : c σ H fun b H1 => if b = true then ta σ H1 Q else tb σ H1 Q) : tIf c ta tb σ H Q := q
theorem r_par {j : Nat} (q : tl σ H fun vs H1 => ∃ v w, vs = [v, w] ∧ D.nx ((σ.set i (some v)).set j (some w)) H1) : tPar i j tl D σ H := q
theorem r_pair {P : V → V → Prop} (q : P x y) : ∃ v w, [x, y] = [v, w] ∧ P v w := ⟨x, y, rfl, q⟩
theorem r_test {Q : Bool → Hp → Prop} (q : te σ H fun x H' => ∃ k, x = .bl k ∧ Q k H') : tTest te σ H Q := q
theorem r_tB {Q : Bool → Hp → Prop} (q : te σ H fun x H' => ∃ k, x = .bl k ∧ Q k H') : tB te σ H Q := q
theorem r_not {Q : Bool → Hp → Prop} (q : c σ H fun b H1 => Q (!b) H1) : tNot c σ H Q := q
theorem r_and {Q : Bool → Hp → Prop} (q : c σ H fun b H1 => if b = true then d σ H1 Q else Q false H1) : tAnd c d σ H Q := q
theorem r_or {Q : Bool → Hp → Prop} (q : c σ H fun b H1 => if b = true then Q true H1 else d σ H1 Q) : tOr c d σ H Q := q
theorem r_andV (q : ta σ H fun x H1 => ∃ c, x = .bl c ∧ if c = true then tb σ H1 Q else Q (.bl false) H1) : tAndV ta tb σ H Q := q
theorem r_orV (q : ta σ H fun x H1 => ∃ c, x = .bl c ∧ if c = true then Q (.bl true) H1 else tb σ H1 Q) : tOrV ta tb σ H Q := q
theorem r_notV (q : ta σ H fun x H1 => ∃ c, x = .bl c ∧ Q (.bl (!c)) H1) : tNotV ta σ H Q := q
theorem r_nil {Q : List V → Hp → Prop} (q : Q [] H) : tNil σ H Q := q
theorem r_cons {Q : List V → Hp → Prop} (q : ta σ H fun x H1 => tl σ H1 fun xs H2 => Q (x :: xs) H2) : tCons ta tl σ H Q := q
theorem r_call {sp : Sp} {E : XK} (q : tl σ H fun vs H1 => sp (vs ++ []) H1 Q E) : tCall sp [] E tl σ H Q := q
theorem r_callS {sp : Sp} {E : L2.St → XK} (q : tl σ H fun vs H1 => sp vs H1 Q (E σ)) : tCallS sp E tl σ H Q := q
theorem r_cb {r : List V → Hp → VK → Prop} (q : tl σ H fun vs H1 => r vs H1 Q) : tCB r tl σ H Q := q
theorem r_then {k : V → Hp → VK → Prop} (q : ta σ H fun x H1 => k x H1 Q) : tThen ta k σ H Q := q
theorem r_tup (q : tl σ H fun xs H1 => xs.length ≤ sizeLine ∧ ∀ p, H1 p = none → Q (.ref p) (upd H1 p (.tup xs))) : tTup tl σ H Q := q
theorem r_lst (q : tl σ H fun xs H1 => xs.length ≤ sizeLine ∧ ∀ p, H1 p = none → Q (.ref p) (upd H1 p (.lst xs))) : tLst tl σ H Q := q
theorem r_sl {r : V → Option Int → Option Int → Hp → VK → Prop} {to th : TO} (q : te σ H fun x H1 => to σ H1 fun l H2 => th σ H2 fun u H3 => r x l u H3 Q) : tSl r te to th σ H Q := q
theorem r_nopart {Q : Option Int → Hp → Prop} (q : Q none H) : tNoPart σ H Q := q
theorem r_part {Q : Option Int → Hp → Prop} (q : te σ H fun x H1 => ∃ i, x = .int i ∧ Q (some i) H1) : tPart te σ H Q := q
theorem r_op (q : ta σ H fun x H1 => tb σ H1 fun y H2 => r x y H2 Q) : tOp r ta tb σ H Q := q
theorem r_un {r : V → Hp → VK → Prop} (q : ta σ H fun x H1 => r x H1 Q) : tUn r ta σ H Q := q
theorem r_chain {r' : R2} (q : ta σ H fun x H1 => tb σ H1 fun y H2 => r x y H2 fun z H3 => ∃ k, z = .bl k ∧ (if k = true then tc σ H3 fun w' H4 => r' y w' H4 Q else Q (.bl false) H3)) : tChain r r' ta tb tc σ H Q := q
theorem r_var (h : σ[i]? = some (some v)) (q : Q v H) : tVar i σ H Q := ⟨v, h, q⟩
theorem r_c (q : Q v H) : tC v σ H Q := q
theorem r_yes {Q : Bool → Hp → Prop} (q : Q true H) : tYes σ H Q := q
theorem r_bm {T : String} {r : V → List V → Hp → VK → Prop} {to : TE} (q : to σ H fun x H1 => tyV K T x H1 ∧ tl σ H1 fun xs H2 => r x xs H2 Q) : tBM K T r to tl σ H Q := q
theorem r_bl {b : Bool} {P : Bool → Prop} (q : P b) : ∃ k, V.bl b = V.bl k ∧ P k := ⟨b, rfl, q⟩
theorem r_in {b : Int} {P : Int → Prop} (q : P b) : ∃ k, V.int b = V.int k ∧ P k := ⟨b, rfl, q⟩
theorem r_ty {s : Str} {A : Prop} (q : A) : tyV K "str" (.str s) H ∧ A := ⟨rfl, q⟩
theorem r_I0 {g : Int → Int → V} {i j : Int} (q : Q (g i j) H) : rI0 g (.int i) (.int j) H Q := ⟨i, j, rfl, rfl, q⟩
theorem r_I {C : Int → Int → Prop} {g : Int → Int → V} {i j : Int} (hc : C i j) (q : Q (g i j) H) : rI C g (.int i) (.int j) H Q := ⟨i, j, rfl, rfl, hc, q⟩
theorem r_U {g : Int → V} {i : Int} (q : Q (g i) H) : rU g (.int i) H Q := ⟨i, rfl, q⟩
theorem r_eqI {i j : Int} (q : Q (.bl (decide (i = j))) H) : rEq (.int i) (.int j) H Q := ⟨rfl, by
  rw [show decide (V.int i = V.int j) = decide (i = j) by simp]; exact q⟩
theorem r_neI {i j : Int} (q : Q (.bl (!decide (i = j))) H) : rNe (.int i) (.int j) H Q := ⟨rfl, by
  rw [show decide (V.int i = V.int j) = decide (i = j) by simp]; exact q⟩
theorem r_eqS {i j : List Nat} (q : Q (.bl (decide (i = j))) H) : rEq (.str (S i)) (.str (S j)) H Q := ⟨rfl, by
  rw [show decide (V.str (S i) = V.str (S j)) = decide (i = j) by simp [S_eq]]; exact q⟩
theorem r_neS {i j : List Nat} (q : Q (.bl (!decide (i = j))) H) : rNe (.str (S i)) (.str (S j)) H Q := ⟨rfl, by
  rw [show decide (V.str (S i) = V.str (S j)) = decide (i = j) by simp [S_eq]]; exact q⟩
theorem r_eqB {i j : Bool} (q : Q (.bl (decide (i = j))) H) : rEq (.bl i) (.bl j) H Q := ⟨rfl, by
  rw [show decide (V.bl i = V.bl j) = decide (i = j) by simp]; exact q⟩
theorem r_neB {i j : Bool} (q : Q (.bl (!decide (i = j))) H) : rNe (.bl i) (.bl j) H Q := ⟨rfl, by
  rw [show decide (V.bl i = V.bl j) = decide (i = j) by simp]; exact q⟩
theorem r_catS {i j : List Nat} (h : i.length + j.length ≤ sizeLine) (q : Q (.str (S (i ++ j))) H) : rCatS (.str (S i)) (.str (S j)) H Q := ⟨i, j, rfl, rfl, h, q⟩
theorem r_repS {l : List Nat} {k : Int} (h0 : 0 ≤ k) (h1 : k < 2 ^ 62) (h : l.length * k.toNat ≤ sizeLine) (q : Q (.str (S (List.replicate k.toNat l).flatten)) H) : rRepS (.str (S l)) (.int k) H Q := ⟨l, k, rfl, rfl, h0, h1, h, q⟩
theorem r_slSS {l : List Nat} {lo hi : Option Int} (h : l.length ≤ sizeLine) (q : Q (.str (S (cutL l lo hi))) H) : rSlSS (.str (S l)) lo hi H Q := ⟨l, rfl, h, q⟩
theorem r_ixSS {l : List Nat} {j : Int} {c : Nat} (h : l.length ≤ sizeLine) (h0 : 0 ≤ j) (hc : l[j.toNat]? = some c) (q : Q (.str (S [c])) H) : rIxSS (.str (S l)) (.int j) H Q := ⟨l, j, c, rfl, rfl, h, by
  have e : j = ((j.toNat : Nat) : Int) := by omega
  rw [e]; exact atI_nat hc, q⟩
theorem r_niS {l : List Nat} {c : Nat} (q : Q (.bl (!decide (c ∈ l))) H) : rNiS (.str (S [c])) (.str (S l)) H Q := ⟨c, l, rfl, rfl, q⟩
theorem r_inSS {l : List Nat} {c : Nat} (q : Q (.bl (decide (c ∈ l))) H) : rInSS (.str (S [c])) (.str (S l)) H Q := ⟨c, l, rfl, rfl, q⟩
theorem r_lenS {l : List Nat} (h : l.length ≤ sizeLine) (q : Q (.int l.length) H) : rLenS [.str (S l)] H Q := ⟨l, rfl, h, q⟩
theorem r_lenL {p : Addr} {ys : List V} (h : SqL K H p ys) (q : Q (.int ys.length) H) : rLenQ K [.ref p] H Q := ⟨p, ys, rfl, .inl h, q⟩
theorem r_lenT {p : Addr} {ys : List V} (h : SqT K H p ys) (q : Q (.int ys.length) H) : rLenQ K [.ref p] H Q := ⟨p, ys, rfl, .inr h, q⟩
theorem r_ixL {p : Addr} {xs : List V} {j : Int} (h : SqL K H p xs) (h0 : 0 ≤ j) (hc : xs[j.toNat]? = some v) (q : Q v H) : rIxL K (.ref p) (.int j) H Q := ⟨p, xs, j, v, rfl, rfl, h, by
  have e : j = ((j.toNat : Nat) : Int) := by omega
  rw [e]; exact atI_nat hc, q⟩
theorem r_ixT {p : Addr} {xs : List V} {j : Int} (h : SqT K H p xs) (h0 : 0 ≤ j) (hc : xs[j.toNat]? = some v) (q : Q v H) : rIxT K (.ref p) (.int j) H Q := ⟨p, xs, j, v, rfl, rfl, h, by
  have e : j = ((j.toNat : Nat) : Int) := by omega
  rw [e]; exact atI_nat hc, q⟩
theorem r_setL {p : Addr} {xs : List V} {j : Int} {Q : Hp → Prop} (h : H p = some (.lst xs)) (h0 : 0 ≤ j) (hj : j.toNat < xs.length) (q : Q (upd H p (.lst (xs.set j.toNat v)))) : rSetL (.ref p) (.int j) v H Q := ⟨p, xs, j, j.toNat, rfl, rfl, h, by
  have e : j = ((j.toNat : Nat) : Int) := by omega
  have := Evl.ixN_nat hj
  rw [← e] at this
  exact this, q⟩
theorem r_sum {p : Addr} {ns : List Int} (h : SqL K H p (ns.map V.int)) (q : Q (.int ns.sum) H) : rSum K [.ref p] H Q := ⟨p, ns, rfl, h, q⟩
theorem take_map {α β : Type} {l : List α} {i : Nat} {x : β} {f : α → β} (h : (l.map f)[i]? = some x) : (l.take (i + 1)).map f = (l.take i).map f ++ [x] := by
  rw [List.getElem?_map] at h
  cases e : l[i]? with
  | none => rw [e] at h; cases h
  | some y =>
    rw [e] at h
    have e2 : f y = x := Option.some.inj h
    rw [List.take_add_one, e, List.map_append, ← e2]
    rfl
theorem lt_of_get {α : Type} {l : List α} {i : Nat} {x : α} (h : l[i]? = some x) : i < l.length := (List.getElem?_eq_some_iff.mp h).1
theorem r_join {p : Addr} {a : List Nat} {ys : List (List Nat)} (h : SqL K H p (ys.map fun l => V.str (S l))) (hz : (ys.map (·.length)).sum + ys.length * a.length ≤ 16777216) (q : Q (.str (S (TL.joinL a ys))) H) : rJoinS K (.str (S a)) [.ref p] H Q := ⟨a, p, ys, rfl, rfl, .inl h, hz, q⟩
theorem joinL_nil : ∀ ys : List (List Nat), TL.joinL [] ys = ys.flatten
  | [] => rfl
  | [p] => by simp [TL.joinL]
  | p :: q :: r => by
    show p ++ ([] ++ TL.joinL [] (q :: r)) = _
    rw [joinL_nil (q :: r)]
    rfl
theorem joinL_one (l : List Nat) : TL.joinL [] (l.map fun c => [c]) = l := by
  rw [joinL_nil]
  induction l with
  | nil => rfl
  | cons x r ih => rw [List.map_cons, List.flatten_cons, ih]; rfl
/-- ''.join of signs -/
theorem r_joinC {p : Addr} {l : List Nat} (h : SqL K H p (l.map fun c => V.str (S [c]))) (hz : l.length ≤ 100000) (q : Q (.str (S l)) H) : rJoinS K (.str (S [])) [.ref p] H Q := by
  have e : l.map (fun c => V.str (S [c])) = (l.map fun c => [c]).map fun l => V.str (S l) := by rw [List.map_map]; rfl
  rw [e] at h
  refine r_join h ?_ (by rw [joinL_one]; exact q)
  rw [List.map_map, List.length_map]
  have : (l.map ((fun x => x.length) ∘ fun c => [c])).sum = l.length := by
    clear h e q hz
    induction l with
    | nil => rfl
    | cons x r ih => rw [List.map_cons, List.sum_cons, ih, List.length_cons]; show 1 + r.length = r.length + 1; omega
  rw [this]
  show l.length + l.length * 0 ≤ _
  omega
theorem r_tupL {p : Addr} {xs : List V} (h : SqL K H p xs) (q : ∀ t, H t = none → Q (.ref t) (upd H t (.tup xs))) : kTup K (.ref p) H Q := .inl ⟨p, xs, rfl, h, q⟩
theorem r_tupT {p : Addr} {xs : List V} (h : SqT K H p xs) (q : Q (.ref p) H) : kTup K (.ref p) H Q := .inr ⟨p, xs, rfl, h, q⟩
theorem r_all {p : Addr} {bs : List Bool} (h : SqL K H p (bs.map V.bl)) (q : Q (.bl (bs.all id)) H) : rAll K [.ref p] H Q := ⟨p, bs, rfl, h, q⟩
theorem r_minS {p : Addr} {ls : List (List Nat)} (h : SqL K H p (ls.map fun l => V.str (S l))) (hn : ls ≠ []) (q : ∀ m ∈ ls, (∀ y ∈ ls, ¬ y < m) → Q (.str (S m)) H) : rMinS K [.ref p] H Q := ⟨p, ls, rfl, h, hn, q⟩
theorem ltCps_iff : ∀ a b : List Nat, PySem.Spec.ltCps a b = true ↔ a < b
  | [], [] => by simp [PySem.Spec.ltCps]
  | [], _ :: _ => by simp [PySem.Spec.ltCps]
  | _ :: _, [] => by simp [PySem.Spec.ltCps]
  | a :: r, b :: t => by
    simp only [PySem.Spec.ltCps, Bool.or_eq_true, Bool.and_eq_true, decide_eq_true_eq, beq_iff_eq, List.cons_lt_cons_iff, ltCps_iff r t]
theorem rising_le : ∀ (zs : List Str) (p : Str), PyProof.Rows.risingS p zs = true → ∀ y ∈ zs, ¬ y.cps.toList < p.cps.toList
  | [], _, _, y, hy => by cases hy
  | x :: r, p, h, y, hy => by
    have h' : (!PySem.Spec.ltCps x.cps.toList p.cps.toList && PyProof.Rows.risingS x r) = true := h
    rw [Bool.and_eq_true, Bool.not_eq_true'] at h'
    have hx : ¬ x.cps.toList < p.cps.toList := fun z => by
      have := (ltCps_iff _ _).mpr z
      rw [h'.1] at this
      cases this
    rcases List.mem_cons.mp hy with rfl | hy
    · exact hx
    · have := rising_le r x h'.2 y hy
      exact fun z => absurd z (List.not_lt.mpr (List.le_trans (List.not_lt.mp hx) (List.not_lt.mp this)))
/-- sorted(texts): its first is the least -/
theorem r_sortedS {p : Addr} {ls : List (List Nat)} (h : SqL K H p (ls.map fun l => V.str (S l))) (hl : ls.length < 64) (hn : ls ≠ [])
    (q : ∀ z zs d, z ∈ ls → (∀ y ∈ ls, ¬ y < z) → H d = none → Q (.ref d) (upd H d (.lst (.str (S z) :: zs)))) : rSortedS K [.ref p] H Q := by
  have e : ls.map (fun l => V.str (S l)) = (ls.map S).map V.str := by rw [List.map_map]; rfl
  rw [e] at h
  refine ⟨p, ls.map S, rfl, h, by rw [List.length_map]; exact hl, fun ys d hp hs hd => ?_⟩
  cases ys with
  | nil =>
    have := hp.length_eq
    rw [List.length_map] at this
    exact absurd (List.length_eq_zero_iff.mp this.symm) hn
  | cons y r =>
    have hy : y ∈ ls.map S := hp.mem_iff.mp (List.mem_cons_self ..)
    obtain ⟨z, hz, rfl⟩ := List.mem_map.mp hy
    refine q z (r.map V.str) d hz (fun x hx => ?_) hd
    have hx2 : S x ∈ S z :: r := hp.mem_iff.mpr (List.mem_map.mpr ⟨x, hx, rfl⟩)
    rcases List.mem_cons.mp hx2 with e | hx3
    · rw [S_inj e]; exact List.lt_irrefl _
    · have := rising_le r (S z) hs (S x) hx3
      rwa [S_cps, S_cps] at this
theorem kb_int_int : kitB "int" "int" = some true := by decide +kernel
theorem kb_int_bool : kitB "int" "bool" = some false := by decide +kernel
theorem kb_int_str : kitB "int" "str" = some false := by decide +kernel
theorem kb_int_list : kitB "int" "list" = some false := by decide +kernel
theorem kb_int_tuple : kitB "int" "tuple" = some false := by decide +kernel
theorem kb_bool_int : kitB "bool" "int" = some true := by decide +kernel
theorem kb_bool_bool : kitB "bool" "bool" = some true := by decide +kernel
theorem kb_bool_str : kitB "bool" "str" = some false := by decide +kernel
theorem kb_bool_list : kitB "bool" "list" = some false := by decide +kernel
theorem kb_bool_tuple : kitB "bool" "tuple" = some false := by decide +kernel
theorem kb_str_int : kitB "str" "int" = some false := by decide +kernel
theorem kb_str_bool : kitB "str" "bool" = some false := by decide +kernel
theorem kb_str_str : kitB "str" "str" = some true := by decide +kernel
theorem kb_str_list : kitB "str" "list" = some false := by decide +kernel
theorem kb_str_tuple : kitB "str" "tuple" = some false := by decide +kernel
theorem kb_NoneType_int : kitB "NoneType" "int" = some false := by decide +kernel
theorem kb_NoneType_bool : kitB "NoneType" "bool" = some false := by decide +kernel
theorem kb_NoneType_str : kitB "NoneType" "str" = some false := by decide +kernel
theorem kb_NoneType_list : kitB "NoneType" "list" = some false := by decide +kernel
theorem kb_NoneType_tuple : kitB "NoneType" "tuple" = some false := by decide +kernel
theorem kb_list_int : kitB "list" "int" = some false := by decide +kernel
theorem kb_list_bool : kitB "list" "bool" = some false := by decide +kernel
theorem kb_list_str : kitB "list" "str" = some false := by decide +kernel
theorem kb_list_list : kitB "list" "list" = some true := by decide +kernel
theorem kb_list_tuple : kitB "list" "tuple" = some false := by decide +kernel
theorem kb_tuple_int : kitB "tuple" "int" = some false := by decide +kernel
theorem kb_tuple_bool : kitB "tuple" "bool" = some false := by decide +kernel
theorem kb_tuple_str : kitB "tuple" "str" = some false := by decide +kernel
theorem kb_tuple_list : kitB "tuple" "list" = some false := by decide +kernel
theorem kb_tuple_tuple : kitB "tuple" "tuple" = some true := by decide +kernel
theorem r_isi {x : V} {n m : String} {b : Bool} (ht : TyX K H x (.type m)) (hk : kitB m n = some b) (q : Q (.bl b) H) : rIsi K [x, .ty n] H Q := ⟨x, .ty n, _, _, b, rfl, .ty n, ht, kit_ty hk, q⟩
/-- int(an int), abs(an int) -/
def rInt1 : List V → Hp → VK → Prop := fun xs H Q => ∃ i, xs = [.int i] ∧ Q (.int i) H
def rAbs : List V → Hp → VK → Prop := fun xs H Q => ∃ i, xs = [.int i] ∧ Q (.int (if i < 0 then -i else i)) H
theorem call_intI {X : Cx} : CallR X (.type "int") rInt1 := by
  intro pins s σ H xs us Q I r h
  exact call_int1 pins s σ H xs us Q I r (.inl h)
theorem call_absI {X : Cx} : CallR X (.builtin "abs") rAbs := call_abs
theorem r_int {i : Int} (q : Q (.int i) H) : rInt1 [.int i] H Q := ⟨i, rfl, q⟩
theorem r_abs {i : Int} (q : Q (.int (if i < 0 then -i else i)) H) : rAbs [.int i] H Q := ⟨i, rfl, q⟩
theorem r_cS {l : List Nat} (q : Q (.str (S l)) H) : tC (.str (S l)) σ H Q := q
theorem r_cs {s : Str} (q : Q (.str (S s.cps.toList)) H) : tC (.str s) σ H Q := by
  have e : s = S s.cps.toList := by cases s; simp [S]
  show Q (.str s) H
  rw [e]; exact q
theorem r_cut {Mid : L2.St → Hp → Prop} (h : t { D with nx := Mid } σ H) (k : ∀ σ' H', Mid σ' H' → u D σ' H') : Evl.tCut t u D σ H := ⟨Mid, h, k⟩
theorem r_ite {p : Prop} [Decidable p] {A B : Prop} (h1 : p → A) (h2 : ¬ p → B) : if decide p = true then A else B := by
  by_cases h : p
  · rw [decide_eq_true h]; exact h1 h
  · rw [decide_eq_false h]; exact h2 h
theorem r_iteN {p : Prop} [Decidable p] {A B : Prop} (h1 : ¬ p → A) (h2 : p → B) : if (!decide p) = true then A else B := by
  by_cases h : p
  · rw [decide_eq_true h]; exact h2 h
  · rw [decide_eq_false h]; exact h1 h
theorem r_notNn (q : Q (.bl false) H) : rNotN .non .non H Q := ⟨rfl, q⟩
theorem r_notN_int {i : Int} (q : Q (.bl true) H) : rNotN (.int i) .non H Q := ⟨rfl, q⟩
theorem r_notN_str {i : Str} (q : Q (.bl true) H) : rNotN (.str i) .non H Q := ⟨rfl, q⟩
theorem r_notN_ref {i : Addr} (q : Q (.bl true) H) : rNotN (.ref i) .non H Q := ⟨rfl, q⟩
theorem r_isNn (q : Q (.bl true) H) : rIsN .non .non H Q := ⟨rfl, q⟩
theorem r_isN_int {i : Int} (q : Q (.bl false) H) : rIsN (.int i) .non H Q := ⟨rfl, q⟩
theorem r_isN_str {i : Str} (q : Q (.bl false) H) : rIsN (.str i) .non H Q := ⟨rfl, q⟩
theorem r_isN_ref {i : Addr} (q : Q (.bl false) H) : rIsN (.ref i) .non H Q := ⟨rfl, q⟩
theorem r_newT {xs : List V} (h : xs.length ≤ 1000000) (q : ∀ p H', H p = none → Ex H H' → H' p = some (.tup xs) → Q (.ref p) H') : xs.length ≤ sizeLine ∧ ∀ p, H p = none → Q (.ref p) (upd H p (.tup xs)) :=
  ⟨by rw [sizeLine_eq]; omega, fun p hp => q p _ hp (Evl.Ex.new hp) upd_same⟩
theorem r_newL {xs : List V} (h : xs.length ≤ 1000000) (q : ∀ p H', H p = none → Ex H H' → H' p = some (.lst xs) → Q (.ref p) H') : xs.length ≤ sizeLine ∧ ∀ p, H p = none → Q (.ref p) (upd H p (.lst xs)) :=
  ⟨by rw [sizeLine_eq]; omega, fun p hp => q p _ hp (Evl.Ex.new hp) upd_same⟩
theorem r_eqSelf {x : V} {dt : PyData} (h : Dp K H x dt) (hs : PySem.SeqAt.shaped dt = true) (q : Q (.bl true) H) : rEqD K x x H Q :=
  ⟨dt, dt, h, h, hs, hs, by rw [PySem.SeqAt.eqv_refl dt (PySem.SeqAt.canLay_of_shaped hs)]; exact q⟩
theorem r_neSame {x y : V} {dt : PyData} (h : Dp K H x dt) (k : Dp K H y dt) (hs : PySem.SeqAt.shaped dt = true) (q : Q (.bl false) H) : rNeD K x y H Q :=
  ⟨dt, dt, h, k, hs, hs, by rw [PySem.SeqAt.eqv_refl dt (PySem.SeqAt.canLay_of_shaped hs)]; exact q⟩
theorem r_iteB {b : Bool} {A B : Prop} (h1 : b = true → A) (h2 : b = false → B) : if b = true then A else B := by
  cases b with
  | true => exact h1 rfl
  | false => exact h2 rfl
theorem r_T {A B : Prop} (h : A) : if true = true then A else B := h
theorem r_F {A B : Prop} (h : B) : if false = true then A else B := h
theorem r_nT {A B : Prop} (h : B) : if (!true) = true then A else B := h
theorem r_nF {A B : Prop} (h : A) : if (!false) = true then A else B := h
theorem r_iteNB {b : Bool} {A B : Prop} (h1 : b = false → A) (h2 : b = true → B) : if (!b) = true then A else B := by
  cases b with
  | true => exact h2 rfl
  | false => exact h1 rfl
end
theorem small {n : Nat} (h : n ≤ 1000000) : n ≤ sizeLine := by rw [sizeLine_eq]; omega
theorem lit (s : Str) : s = S s.cps.toList := by cases s; simp [S]


theorem dp_ints {K : PySem.W.Frag} {H : Hp} : ∀ ns : List Int, DpAll K H (ns.map V.int) (ns.map PyData.int)
  | [] => .nil
  | n :: r => .cons (.int n) (dp_ints r)
theorem lay_ints : ∀ ns : List Int, PyData.canLayAll0 (ns.map PyData.int) = true
  | [] => rfl
  | n :: r => by rw [List.map_cons, PyData.canLayAll0, lay_ints r]; rfl
theorem depth_ints : ∀ ns : List Int, PyData.depthAll (ns.map PyData.int) = 0
  | [] => rfl
  | n :: r => by rw [List.map_cons, PyData.depthAll, depth_ints r]; rfl
theorem shaped_ints (ns : List Int) : PySem.SeqAt.shaped (.tuple (ns.map PyData.int)) = true := by
  unfold PySem.SeqAt.shaped
  rw [PyData.canLay0, lay_ints, PyData.depth, depth_ints]
  rfl
/-! ### comprehensions and loops -/
section
variable {σ : L2.St} {H H1 : Hp} {Q : VK} {D : Ends} {ta te tl : TE} {tb : TS} {tt : TT} {tA : TA} {j : Nat} {vs : List Nat} {K : PySem.W.Frag} {g : TG}
def LcP (J : It) (g : TG) (tt : TT) (te : TE) (vs : List Nat) (σ : L2.St) (H1 : Hp) (Q : VK) : Prop := ∀ D, H1 D = none → ∃ W : Nat → Nat → Hp → Prop, (∃ m, W 0 m (upd H1 D (.lst []))) ∧ ∀ i m H, W i m H →
      (J.stop i H ∧ Q (.ref D) H) ∨ (J.go i H ∧ ∃ Nx : Hp → Prop, (∀ H', Nx H' → ∃ m', m' < m ∧ W (i + 1) m' H') ∧ ∀ x H', J.yld i H x H' → g x (wipe σ vs) H' fun σ2 H2 => wipe σ2 vs = wipe σ vs ∧ tt σ2 H2 fun b H3 =>
        if b = true then te σ2 H3 fun y H4 => ∃ acc, H4 D = some (.lst acc) ∧ acc.length < sizeLine ∧ Nx (upd H4 D (.lst (acc ++ [y]))) else Nx H3)
def ForP (J : It) (g : TG) (tb : TS) (D : Ends) (σ : L2.St) (H1 : Hp) : Prop := ∃ W : Nat → Nat → L2.St → Hp → Prop, (∃ m, W 0 m σ H1) ∧ ∀ i m σ H, W i m σ H →
      (J.stop i H ∧ D.nx σ H) ∨ (J.go i H ∧ ∃ N : L2.St → Hp → Prop, (∀ σ' H', N σ' H' → ∃ m', m' < m ∧ W (i + 1) m' σ' H') ∧ ∀ x H', J.yld i H x H' → g x σ H' fun σ2 H2 => tb { D with nx := N, ct := N, bk := D.nx } σ2 H2)
theorem r_lcR1 (q : tA σ H fun xs H1 => ∃ n : Int, xs = [.int n] ∧ -(2 ^ 62) ≤ n ∧ n < 2 ^ 62 ∧ LcP (Itr 0 n.toNat) g tt te vs σ H1 Q) : tLc (iRng1 tA) g tt te vs σ H Q := q
theorem r_lcR2 (q : tA σ H fun xs H1 => ∃ i n : Int, xs = [.int i, .int n] ∧ (-(2 ^ 62) ≤ i ∧ i < 2 ^ 62 ∧ -(2 ^ 62) ≤ n ∧ n < 2 ^ 62) ∧ LcP (Itr i (n - i).toNat) g tt te vs σ H1 Q) : tLc (iRng2 tA) g tt te vs σ H Q := q
theorem r_lcL (q : tl σ H fun x H1 => ∃ a, x = .ref a ∧ (∃ xs, SqL K H1 a xs) ∧ LcP (Itl K a) g tt te vs σ H1 Q) : tLc (iList K tl) g tt te vs σ H Q := q
theorem r_lcT (q : tl σ H fun x H1 => ∃ a, x = .ref a ∧ (∃ xs, SqT K H1 a xs) ∧ LcP (Itt K a) g tt te vs σ H1 Q) : tLc (iTup K tl) g tt te vs σ H Q := q
theorem r_forR1 (q : tA σ H fun xs H1 => ∃ n : Int, xs = [.int n] ∧ -(2 ^ 62) ≤ n ∧ n < 2 ^ 62 ∧ ForP (Itr 0 n.toNat) g tb D σ H1) : tFor (iRng1 tA) g tb D σ H := q
theorem r_forR2 (q : tA σ H fun xs H1 => ∃ i n : Int, xs = [.int i, .int n] ∧ (-(2 ^ 62) ≤ i ∧ i < 2 ^ 62 ∧ -(2 ^ 62) ≤ n ∧ n < 2 ^ 62) ∧ ForP (Itr i (n - i).toNat) g tb D σ H1) : tFor (iRng2 tA) g tb D σ H := q
theorem r_forL (q : tl σ H fun x H1 => ∃ a, x = .ref a ∧ (∃ xs, SqL K H1 a xs) ∧ ForP (Itl K a) g tb D σ H1) : tFor (iList K tl) g tb D σ H := q
theorem r_forT (q : tl σ H fun x H1 => ∃ a, x = .ref a ∧ (∃ xs, SqT K H1 a xs) ∧ ForP (Itt K a) g tb D σ H1) : tFor (iTup K tl) g tb D σ H := q
theorem r_forS (q : tl σ H fun v H1 => ∃ x, v = .str x ∧ ForP (Its x) g tb D σ H1) : tFor (iStr tl) g tb D σ H := q
theorem r_forE (q : tA σ H fun xs H1 => ∃ l, xs = [.str (S l)] ∧ ForP (Iten (S l)) g tb D σ H1) : tFor (iEnumS tA) g tb D σ H := q
theorem r_rng1 {n : Int} {P : Int → Prop} (h : -1000000 ≤ n ∧ n ≤ 1000000) (q : P n) : ∃ m : Int, [V.int n] = [V.int m] ∧ -(2 ^ 62) ≤ m ∧ m < 2 ^ 62 ∧ P m := ⟨n, rfl, by omega, by omega, q⟩
theorem r_rng2 {i n : Int} {P : Int → Int → Prop} (h : -1000000 ≤ i ∧ i ≤ 1000000 ∧ -1000000 ≤ n ∧ n ≤ 1000000) (q : P i n) : ∃ k m : Int, [V.int i, V.int n] = [V.int k, V.int m] ∧ (-(2 ^ 62) ≤ k ∧ k < 2 ^ 62 ∧ -(2 ^ 62) ≤ m ∧ m < 2 ^ 62) ∧ P k m := ⟨i, n, rfl, ⟨by omega, by omega, by omega, by omega⟩, q⟩
theorem r_refL {a : Addr} {xs : List V} {P : Addr → Prop} (h : SqL K H a xs) (q : P a) : ∃ b, V.ref a = V.ref b ∧ (∃ xs, SqL K H b xs) ∧ P b := ⟨a, rfl, ⟨xs, h⟩, q⟩
theorem r_refT {a : Addr} {xs : List V} {P : Addr → Prop} (h : SqT K H a xs) (q : P a) : ∃ b, V.ref a = V.ref b ∧ (∃ xs, SqT K H b xs) ∧ P b := ⟨a, rfl, ⟨xs, h⟩, q⟩
theorem r_strE {l : List Nat} {P : List Nat → Prop} (q : P l) : ∃ m, [V.str (S l)] = [V.str (S m)] ∧ P m := ⟨l, rfl, q⟩

/-- behind i turns of a comprehension: acc made, the list at D -/
def LcI (J : Addr → Nat → List V → Hp → Prop) (D : Addr) (i : Nat) (H2 : Hp) : Prop := ∃ acc, H2 D = some (.lst acc) ∧ acc.length ≤ i ∧ J D i acc H2
theorem lc_end {J : Addr → Nat → List V → Hp → Prop} {D : Addr} {i : Nat} {acc : List V} {y : V} {H4 : Hp} (hi : i < 100000) (ha : acc.length ≤ i) (h : H4 D = some (.lst acc)) (k : J D (i + 1) (acc ++ [y]) (upd H4 D (.lst (acc ++ [y])))) :
    ∃ acc, H4 D = some (.lst acc) ∧ acc.length < sizeLine ∧ LcI J D (i + 1) (upd H4 D (.lst (acc ++ [y]))) :=
  ⟨acc, h, by rw [sizeLine_eq]; omega, acc ++ [y], upd_same, by rw [List.length_append, List.length_singleton]; omega, k⟩
theorem lc_skip {J : Addr → Nat → List V → Hp → Prop} {D : Addr} {i : Nat} {acc : List V} {H4 : Hp} (ha : acc.length ≤ i) (h : H4 D = some (.lst acc)) (k : J D (i + 1) acc H4) : LcI J D (i + 1) H4 := ⟨acc, h, by omega, k⟩
theorem lcR {lo : Int} {n : Nat} (J : Addr → Nat → List V → Hp → Prop) (hw : ∀ x, wipe ((wipe σ vs).set j (some x)) vs = wipe σ vs)
    (h0 : ∀ D, H1 D = none → J D 0 [] (upd H1 D (.lst [])))
    (hs : ∀ D i H2 acc, H1 D = none → i < n → H2 D = some (.lst acc) → acc.length ≤ i → J D i acc H2 → tt ((wipe σ vs).set j (some (.int (lo + i)))) H2 fun b H3 =>
      if b = true then te ((wipe σ vs).set j (some (.int (lo + i)))) H3 fun y H4 => ∃ acc, H4 D = some (.lst acc) ∧ acc.length < sizeLine ∧ LcI J D (i + 1) (upd H4 D (.lst (acc ++ [y]))) else LcI J D (i + 1) H3)
    (hd : ∀ D H2 acc, H1 D = none → H2 D = some (.lst acc) → J D n acc H2 → Q (.ref D) H2) : LcP (Itr lo n) (gName j) tt te vs σ H1 Q := fun D hD =>
  lc_range (LcI J D) ⟨[], upd_same, Nat.le_refl _, h0 D hD⟩
    (fun i H2 hi ⟨acc, h1, h2, h3⟩ => ⟨hw _, hs D i H2 acc hD hi h1 h2 h3⟩) (fun H2 ⟨acc, h1, h2, h3⟩ => hd D H2 acc hD h1 h3)
theorem lcL {a : Addr} {xs : List V} (J : Addr → Nat → List V → Hp → Prop) (hw : ∀ x, wipe ((wipe σ vs).set j (some x)) vs = wipe σ vs)
    (h0 : ∀ D, H1 D = none → J D 0 [] (upd H1 D (.lst []))) (hl : ∀ D i H2 acc, H1 D = none → J D i acc H2 → SqL K H2 a xs)
    (hs : ∀ D i x H2 acc, H1 D = none → xs[i]? = some x → H2 D = some (.lst acc) → acc.length ≤ i → J D i acc H2 → tt ((wipe σ vs).set j (some x)) H2 fun b H3 =>
      if b = true then te ((wipe σ vs).set j (some x)) H3 fun y H4 => ∃ acc, H4 D = some (.lst acc) ∧ acc.length < sizeLine ∧ LcI J D (i + 1) (upd H4 D (.lst (acc ++ [y]))) else LcI J D (i + 1) H3)
    (hd : ∀ D H2 acc, H1 D = none → H2 D = some (.lst acc) → J D xs.length acc H2 → Q (.ref D) H2) : LcP (Itl K a) (gName j) tt te vs σ H1 Q := fun D hD =>
  lc_list (xs := xs) (LcI J D) ⟨[], upd_same, Nat.le_refl _, h0 D hD⟩ (fun i H2 _ ⟨acc, _, _, h3⟩ => hl D i H2 acc hD h3)
    (fun i x H2 hi ⟨acc, h1, h2, h3⟩ => ⟨hw _, hs D i x H2 acc hD hi h1 h2 h3⟩) (fun H2 ⟨acc, h1, h2, h3⟩ => hd D H2 acc hD h1 h3)
theorem lcT {a : Addr} {xs : List V} (J : Addr → Nat → List V → Hp → Prop) (hw : ∀ x, wipe ((wipe σ vs).set j (some x)) vs = wipe σ vs)
    (h0 : ∀ D, H1 D = none → J D 0 [] (upd H1 D (.lst []))) (hl : ∀ D i H2 acc, H1 D = none → J D i acc H2 → SqT K H2 a xs)
    (hs : ∀ D i x H2 acc, H1 D = none → xs[i]? = some x → H2 D = some (.lst acc) → acc.length ≤ i → J D i acc H2 → tt ((wipe σ vs).set j (some x)) H2 fun b H3 =>
      if b = true then te ((wipe σ vs).set j (some x)) H3 fun y H4 => ∃ acc, H4 D = some (.lst acc) ∧ acc.length < sizeLine ∧ LcI J D (i + 1) (upd H4 D (.lst (acc ++ [y]))) else LcI J D (i + 1) H3)
    (hd : ∀ D H2 acc, H1 D = none → H2 D = some (.lst acc) → J D xs.length acc H2 → Q (.ref D) H2) : LcP (Itt K a) (gName j) tt te vs σ H1 Q := fun D hD =>
  lc_tup (xs := xs) (LcI J D) ⟨[], upd_same, Nat.le_refl _, h0 D hD⟩ (fun i H2 _ ⟨acc, _, _, h3⟩ => hl D i H2 acc hD h3)
    (fun i x H2 hi ⟨acc, h1, h2, h3⟩ => ⟨hw _, hs D i x H2 acc hD hi h1 h2 h3⟩) (fun H2 ⟨acc, h1, h2, h3⟩ => hd D H2 acc hD h1 h3)
/-- loops, by what holds behind i turns -/
theorem forR {lo : Int} {n : Nat} (J : Nat → L2.St → Hp → Prop) (h0 : J 0 σ H1)
    (hs : ∀ i σ H, i < n → J i σ H → g (.int (lo + i)) σ H fun σ2 H2 => tb { D with nx := J (i + 1), ct := J (i + 1), bk := D.nx } σ2 H2) (hd : ∀ σ H, J n σ H → D.nx σ H) : ForP (Itr lo n) g tb D σ H1 := for_range J h0 hs hd
theorem forL {a : Addr} {xs : List V} (J : Nat → L2.St → Hp → Prop) (h0 : J 0 σ H1) (hl : ∀ i σ H, i ≤ xs.length → J i σ H → SqL K H a xs)
    (hs : ∀ i x σ H, xs[i]? = some x → J i σ H → g x σ H fun σ2 H2 => tb { D with nx := J (i + 1), ct := J (i + 1), bk := D.nx } σ2 H2) (hd : ∀ σ H, J xs.length σ H → D.nx σ H) : ForP (Itl K a) g tb D σ H1 := for_list J h0 hl hs hd
theorem forT {a : Addr} {xs : List V} (J : Nat → L2.St → Hp → Prop) (h0 : J 0 σ H1) (hl : ∀ i σ H, i ≤ xs.length → J i σ H → SqT K H a xs)
    (hs : ∀ i x σ H, xs[i]? = some x → J i σ H → g x σ H fun σ2 H2 => tb { D with nx := J (i + 1), ct := J (i + 1), bk := D.nx } σ2 H2) (hd : ∀ σ H, J xs.length σ H → D.nx σ H) : ForP (Itt K a) g tb D σ H1 := for_tup J h0 hl hs hd
theorem forE {l : List Nat} (J : Nat → L2.St → Hp → Prop) (h0 : J 0 σ H1)
    (hs : ∀ i c σ H T, l[i]? = some c → J i σ H → H T = none → g (.ref T) σ (upd H T (.tup [.int (i : Nat), .str (S [c])])) fun σ2 H2 => tb { D with nx := J (i + 1), ct := J (i + 1), bk := D.nx } σ2 H2) (hd : ∀ σ H, J l.length σ H → D.nx σ H) : ForP (Iten (S l)) g tb D σ H1 := for_enumS J h0 hs hd
end
end Fg

set_option Elab.async false
set_option linter.all false
set_option maxRecDepth 100000
set_option maxHeartbeats 4000000
/-! isinstance of a caught error whose class has its own __init__ (its dict is there) -/
namespace PySem.W
open PySem PySem.Spec PySem.Calls PyProof.Rows
section
variable {prog : Program} {w : World} {A : Around} {E : Value → Shared → Prop} {s : Shared} {K : Frag} {x D : Addr} {ox oi : Obj}
theorem fg_class {Q : Option Value → Shared → Prop} (C : L2.ExcC K D) (X : K.In s.heap) (I : InstAt s.heap x ox D (some oi)) (h : Q (some (.ref D)) { s with toks := s.toks + 1 }) : wpAny (model prog w) A (getAttr? (.ref x) "__class__") Q E s := by
  have hf : findObj K D (some oi) "__class__" = some (.bind (.builtin "getset_descriptor.__get__") (.builtin "object.__class__")) := findObj_data (by obtain ⟨cd, e, _⟩ := any_some C.hd; rw [e]; rfl) C.ha C.hn C.ht
  obtain ⟨hp, g, dr, tk, os⟩ := s
  have ty := I.type (M := model prog w)
  have ge := looks_findIn (M := model prog w) X C.hg
  have ho := looks_findIn (M := model prog w) X C.hk
  have fi := looks_find (M := model prog w) X I hf
  have be : Looks (model prog w) hp (isInstance (.ref x) (.type "BaseException")) true := ty.andThen (looks_subIn X C.hs)
  have ne : (Value.builtin "BaseException.__getattribute__" == Value.builtin "object.__getattribute__") = false := by decide +kernel
  unfold getAttr? getAttrBy? getAttrBy
  refine wpAny_bind (wpAny_mkText (wpAny_bind (wpAny_attempt (wpAny_holding (wpAny_bind (ty.at (wpAny_bind (ge.at ?_))))))))
  show wpAny _ _ (if (onTheHeap (Value.ref D) && (Value.builtin "BaseException.__getattribute__" == Value.builtin "object.__getattribute__")) = true then _ else _) _ _ _
  rw [ne, Bool.and_false, if_neg Bool.false_ne_true]
  unfold getAttrByItsOwn hookBefore
  rw [if_pos (show onTheHeap (Value.ref D) = true from rfl)]
  refine wpAny_bind (ho.at (wpAny_bind (wpAny_attempt (wpAny_holding ?_))))
  unfold callGetattribute
  rw [show (false && onTheHeap (Value.builtin "BaseException.__getattribute__")) = false from rfl, if_neg Bool.false_ne_true]
  unfold boundAndCalled
  rw [PySem.F.excAttr_ValueError.ga.bind (.ref x)]
  refine wpAny_bind (wpAny_pure ?_)
  refine wpAny_call (codeAny_call_builtin PySem.F.excAttr_ValueError.ga.plain PySem.F.entry_bexc_ga (@check_slot (model prog w) _ _ ⟨hp, g, dr, tk + 1, os⟩ "BaseException.__getattribute__" "BaseException" "__getattribute__" (.ref x) [.str "__class__" tk] [] _ (by decide +kernel) (by decide +kernel) be (PySem.F.args_bexc_ga (.ref x) (.str "__class__" tk)) ?_))
  unfold Builtin.«object.__getattribute__»
  refine wpAny_bind (wpAny_of_eq (a := ((Value.ref x : Value), [Value.str "__class__" tk])) (by first | rfl | (simp only [slotArgs]; rfl)) (wpAny_bind (wpAny_pure (wpAny_bind (ty.at (wpAny_bind (fi.at ?_)))))))
  show wpAny _ _ (holding [Value.builtin "object.__class__"] (call (.builtin "getset_descriptor.__get__") [.builtin "object.__class__", .ref x, .ref D]) >>= ret) _ _ _
  refine wpAny_bind (wpAny_holding (wpAny_call (class_get (s := ⟨hp, g, dr, tk + 1, os⟩) (ox := ox) (od := some oi) X I C.hm ?_)))
  refine wpAny_pure ?_
  show wpAny _ _ (handedOut (.ref D)) _ _ _
  rw [handedOut_of (v := .ref D) rfl]
  first
    | exact wpAny_pure (wpAny_pure h)
    | exact wpAny_pure h
    | exact wpAny_pure (wpAny_bind (wpAny_pure (wpAny_pure h)))
theorem fg_kitx (C : L2.ExcC K D) : KitX K (.ref x) (.ref D) (fun h => InstAt h x ox D (some oi)) where
  ty := fun _ _ _ I => I.type
  it := fun _ _ X _ => by
    obtain ⟨cd, hc, _⟩ := any_some C.hd
    unfold clsIn at hc
    split at hc
    · rename_i ho
      intro A' Q' E' s' k q
      unfold isType loadHead
      exact wpAny_bind (wpAny_loadPart (k _ _ (X _ _ ho)) (wpAny_pure q))
    · cases hc
  ne := fun h tp dd its n sl X htp => by
    obtain ⟨cd, hc, _⟩ := any_some C.hd
    refine Bool.eq_false_iff.mpr fun q => ?_
    have e : D = tp := Value.ref.inj (beq_iff_eq.mp q)
    subst e
    unfold clsIn at hc
    split at hc
    · rename_i ho
      have z := (X _ _ ho).symm.trans htp
      cases z
    · cases hc
  ca := fun X I k => fg_class C X I k
end
end PySem.W
namespace Fg
open PySem PySem.Spec PyProof.Rows L2
/-- isinstance(e, c), e the exception that the suite holds at a, of the class cls, its dict d -/
def rIsX (K : PySem.W.Frag) (a : Addr) (cls : Value) (d : Option Addr) : List V → Hp → VK → Prop := fun xs H Q => ∃ (D : Addr) (c : V) (cv : Value) (b : Bool) (dd : Addr) (fs : List (Str × V)), xs = [.ref a, c] ∧ (∀ u, RelV c u → u = cv) ∧ cls = .ref D ∧ ExcC K D ∧ PySem.W.kitOne K (.ref D) cv = some b ∧
  d = some dd ∧ H dd = some (.xd fs) ∧ Q (.bl b) H
theorem call_isX {X : Cx} {a : Addr} {cls : Value} {d : Option Addr} {oe : Obj} {pn : List (Addr × Obj)} (hz : Zc cls d oe) (hf : ∃ vs, oe.data = .fields vs) : CallR (X.suite a ((a, oe) :: pn)) (.builtin "isinstance") (rIsX X.K a cls d) := by
  intro pins s σ H xs us Q I r h
  obtain ⟨D, c, cv, b, dd, fs, rfl, hcv, rfl, C, e, rfl, hdd, q⟩ := h
  cases r with
  | cons rx rr =>
    cases rr with
    | cons rt rr =>
      cases rr
      cases rx
      have ec := hcv _ rt
      subst ec
      obtain ⟨hget, _⟩ := I.pin (a, oe) (List.mem_append.mpr (.inl List.mem_cons_self))
      obtain ⟨vs, hv⟩ := hf
      have hx : ObjOk X.prog X.w H s.heap dd (.xd fs) := I.hok dd _ hdd
      obtain ⟨mA, hns, hr⟩ := hx
      obtain ⟨od, ho, hl⟩ := lookIn_ns hns
      have J : PySem.W.InstAt s.heap a oe D (some od) := ⟨hget, hz.1, by unfold PySem.W.notCls; rw [hv] <;> rfl, by rw [hz.2]; exact ho⟩
      exact PySem.W.kia_one (PySem.W.fg_kitx C) I.kIn J e (fun z => nomatch z) fun tk => ⟨.bl b, H, I.kept (t' := tk) fun _ _ z => z, rfl, q⟩

/-! ### errors with one field -/
def spInit (C : Addr) (fld : Str) : Sp := fun vs H Q _ => ∃ (a : Addr) (v : V), vs = [.ref a, v] ∧ H a = some (exo a C none) ∧ ∀ dx, H dx = none → dx ≠ a → Q .non (upd (upd H dx (exd dx [(fld, v)])) a (exo a C (some dx)))
structure Err (P : Program) (w : World) (K : PySem.W.Frag) (mg : Str → Option Value) (base : Heap) (x : Str) (C : Addr) (fld : Str) : Prop where
  g : mg x = some (.ref C)
  o : OexC K C
  xf : XfC K C
  xc : ExcC K C
  noN : PySem.W.findIn K (.ref C) fld = some none
  ini : ∃ (fI : Addr) (fd : FuncData) (ps : List Str), PySem.W.findIn K (.ref C) "__init__" = some (some (.ref fI)) ∧ PySem.W.typeIn K (.ref fI) = some (.type "function") ∧ FnOk P w K mg base L2.CX0 1 fI fd ps (spInit C fld) ∧ Binds K fd ps []
section
variable {X : Cx} {x : Str} {C : Addr} {fld : Str} {j : Nat} {e : Expr} {es : List Expr} {ta : TA} {p pos : Pos}
theorem pmk_err (E : Err X.prog X.w X.K X.mg X.base x C fld) (hr : Room j X.A) (hj : 2 ≤ j) (hg : Gl X x) (ha : PA X (e :: es) ta)
    (hdb : (x == ("__debug__" : Str)) = false := by decide) (he : starEach (e :: es) X.env = (false, eval e X.env) :: starEach es X.env := by rfl) (hpl : (backTo pos (starEach es X.env)).any (·.1) = false := by rfl) :
    PMk X (.Call (.Name x p) (e :: es) [] pos) (tMkO C (spInit C fld) [] ta) := by
  obtain ⟨fI, fd, ps, iC, tI, F, b⟩ := E.ini
  exact pmk_oex E.o iC tI F (hr.mono hj) b .nil L2.pass0 hg E.g ha hdb he hpl
end
theorem r_mko {σ : L2.St} {H : Hp} {ta : TA} {C : Addr} {fld : Str} {Q : XK} (q : ta σ H fun vs H1 => vs.length ≤ 1000 ∧ ∀ a, H1 a = none → spInit C fld (.ref a :: (vs ++ [])) (upd H1 a (exo a C none))
  (fun v H2 => v = .non ∧ ∃ (d : Addr) (fs : List (Str × V)), H2 a = some (exo a C (some d)) ∧ H2 d = some (exd d fs) ∧ H1 d = none ∧ Q (.ref C) (some d) (upd (del H2 a) d (.xd fs))) (fun _ _ _ => False)) : tMkO C (spInit C fld) [] ta σ H Q := q
/-- what is raised: the error of this class, whose dict is new -/
def Wish (C : Addr) (fld : Str) (v : V) (H : Hp) (E : XK) : Prop := ∀ d H', H d = none → Ex H H' → H' d = some (.xd [(fld, v)]) → E (.ref C) (some d) H'
theorem Wish.ex {C : Addr} {fld : Str} {v : V} {H H1 : Hp} {E : XK} (w : Wish C fld v H E) (e : Ex H H1) : Wish C fld v H1 E := fun d H' hd ex h => w d H' (Evl.fresh_back e hd) (e.trans ex) h
theorem r_mk {H1 : Hp} {C : Addr} {fld : Str} {v : V} {Q : XK} (q : Wish C fld v H1 Q) : [v].length ≤ 1000 ∧ ∀ a, H1 a = none → spInit C fld (.ref a :: ([v] ++ [])) (upd H1 a (exo a C none))
  (fun u H2 => u = .non ∧ ∃ (d : Addr) (fs : List (Str × V)), H2 a = some (exo a C (some d)) ∧ H2 d = some (exd d fs) ∧ H1 d = none ∧ Q (.ref C) (some d) (upd (del H2 a) d (.xd fs))) (fun _ _ _ => False) := by
  refine ⟨by show 1 ≤ 1000; decide, fun a ha => ⟨a, v, rfl, upd_same, fun dx hd ne => ⟨rfl, dx, [(fld, v)], upd_same, ?_, ?_, ?_⟩⟩⟩
  · rw [upd_ne ne, upd_same]
  · rw [upd_ne ne] at hd
    exact hd
  · rw [upd_ne ne] at hd
    refine q dx _ hd (fun b o hb => ?_) upd_same
    have n1 : b ≠ dx := ne_of_none hb hd
    have n2 : b ≠ a := ne_of_none hb ha
    rw [upd_ne n1, del_ne n2, upd_ne n2, upd_ne n1, upd_ne n2]
    exact hb
theorem r_xf {σ : L2.St} {H : Hp} {Q : VK} {a C : Addr} {cls : Value} {d : Option Addr} {fld : Str} {te : TE} (q : te σ H fun x H1 => x = .ref a ∧ cls = .ref C ∧ ∃ (dd : Addr) (fs : List (Str × V)) (v : V), d = some dd ∧ H1 dd = some (.xd fs) ∧ fs.lookup fld = some v ∧ Q v H1) : tXf a cls d C fld te σ H Q := q
theorem op_eqK {X : Cx} {K : PySem.W.Frag} {k : Nat} {A : Around} (hr : Room k A) (e : X.K = K := by rfl) (e2 : X.A.units = A.units := by rfl) : OpR X (compareOp .Eq) (rEqD K) := by
  rw [← e]; exact op_eqD (by rw [e2]; exact hu64 hr)
theorem r_wAs {K : PySem.W.Frag} {c : Value} {i : Nat} {ts : Addr → Value → Option Addr → TS} {Wout : WX} {D : Ends} {cls : Value} {d : Option Addr} {σ : L2.St} {H : Hp} (k : PySem.W.exmOne K cls c = some true)
    (q : ∀ a, H a = none → ts a cls d { nx := fun σ' H' => D.nx (σ'.set i none) H', rt := D.rt, bk := fun σ' H' => D.bk (σ'.set i none) H', ct := fun σ' H' => D.ct (σ'.set i none) H' } (σ.set i (some (.ref a))) H) : WE (wAs K c i ts Wout D) σ cls d H :=
  ⟨true, k, fun _ => q, fun z => nomatch z⟩
/-- a pair unpacked into two names -/
theorem r_gtup2 {K : PySem.W.Frag} {σ : L2.St} {H : Hp} {a : Addr} {i j : Nat} {x y : V} {Q : L2.St → Hp → Prop} (h : SqT K H a [x, y]) (q : Q ((σ.set i (some x)).set j (some y)) H) : gTup K 2 (gCons (gName i) (gCons (gName j) gNil)) (.ref a) σ H Q :=
  ⟨a, [x, y], rfl, h, rfl, x, [y], rfl, y, [], rfl, rfl, q⟩
end Fg

set_option Elab.async false
set_option linter.all false
set_option maxRecDepth 100000
set_option maxHeartbeats 4000000
namespace Fg
open PySem PySem.Spec PyProof.Rows L2
/-! ### what the top has written -/
section
variable {K : PySem.W.Frag} {h : Heap} {mg : Str → Option Value}
theorem defd_mk {x : Str} {st : Stmt} {ps : List Str} {f : Addr} {oc : Value} {od an : Option Addr} {osl : Array (Option Value)} {kV doc pm cdv ct : Value} (X : K.In h) (G : h.Ns mainGlobals mg)
    (a : PySem.W.nsIn K mainGlobals x = some (some (.ref f)))
    (l : K.lookup f = some ⟨oc, od, .func (PySem.W.fnOf x x (defArgs st) (defBody st) (defScope st) .none kV doc pm an cdv ct), osl⟩)
    (c : PySem.W.codeIn K cdv x = true) (k : PySem.W.keepIn K (.ref f) = true)
    (b : ∀ (kV doc pm : Value) (an : Option Addr) (cdv ct : Value) (us : List Value), us.length = ps.length → bindArgs (PySem.W.fnOf x x (defArgs st) (defBody st) (defScope st) .none kV doc pm an cdv ct) ⟨us, []⟩ = pure (ps.zip us)) : Defd K mg x st ps :=
  ⟨f, _, fun_mk l c k, PySem.W.mg_of X G a, (fun_mk l c k).binds b⟩
theorem lawd_mk {x p : Str} {st : Stmt} {f : Addr} {oc : Value} {od an : Option Addr} {osl : Array (Option Value)} {kV doc pm cdv ct : Value} (X : K.In h) (G : h.Ns mainGlobals mg)
    (a : PySem.W.nsIn K mainGlobals x = some (some (.ref f)))
    (l : K.lookup f = some ⟨oc, od, .func (PySem.W.fnOf x x (defArgs st) (defBody st) (defScope st) .none kV doc pm an cdv ct), osl⟩)
    (c : PySem.W.codeIn K cdv x = true) (k : PySem.W.keepIn K (.ref f) = true)
    (b : ∀ (kV doc pm : Value) (an : Option Addr) (cdv ct : Value) (us : List Value), us.length = [p].length → bindArgs (PySem.W.fnOf x x (defArgs st) (defBody st) (defScope st) .none kV doc pm an cdv ct) ⟨us, []⟩ = pure ([p].zip us)) :
    ∃ (f : Addr) (fd : FuncData), (∀ (s : Shared) (u : Value), BindsTo s fd ⟨[u], []⟩ [(p, u)]) ∧ Fun K x x st f fd ∧ mg x = some (.ref f) :=
  ⟨f, _, fun s u => .of_eq (b _ _ _ _ _ _ [u] rfl), fun_mk l c k, PySem.W.mg_of X G a⟩
theorem const_mk {x : Str} {v : Value} {y : V} (X : K.In h) (G : h.Ns mainGlobals mg) (a : PySem.W.nsIn K mainGlobals x = some (some v)) (e : RelV y v) : ∃ u, mg x = some u ∧ RelV y u := ⟨v, PySem.W.mg_of X G a, e⟩
theorem bi_mk (X : K.In h) (G : h.Ns mainGlobals mg) (z0 : PySem.W.nsIn K mainGlobals "len" = some none) (z1 : PySem.W.nsIn K mainGlobals "int" = some none) (z2 : PySem.W.nsIn K mainGlobals "str" = some none) (z3 : PySem.W.nsIn K mainGlobals "bool" = some none) (z4 : PySem.W.nsIn K mainGlobals "list" = some none) (z5 : PySem.W.nsIn K mainGlobals "tuple" = some none) (z6 : PySem.W.nsIn K mainGlobals "sum" = some none) (z7 : PySem.W.nsIn K mainGlobals "abs" = some none) (z8 : PySem.W.nsIn K mainGlobals "min" = some none) (z9 : PySem.W.nsIn K mainGlobals "max" = some none) (z10 : PySem.W.nsIn K mainGlobals "sorted" = some none) (z11 : PySem.W.nsIn K mainGlobals "all" = some none) (z12 : PySem.W.nsIn K mainGlobals "any" = some none) (z13 : PySem.W.nsIn K mainGlobals "isinstance" = some none) (z14 : PySem.W.nsIn K mainGlobals "range" = some none) (z15 : PySem.W.nsIn K mainGlobals "enumerate" = some none) (z16 : PySem.W.nsIn K mainGlobals "zip" = some none) (z17 : PySem.W.nsIn K mainGlobals "ValueError" = some none) : Bi mg :=
  ⟨PySem.W.mg_none_of X G z0, PySem.W.mg_none_of X G z1, PySem.W.mg_none_of X G z2, PySem.W.mg_none_of X G z3, PySem.W.mg_none_of X G z4, PySem.W.mg_none_of X G z5, PySem.W.mg_none_of X G z6, PySem.W.mg_none_of X G z7, PySem.W.mg_none_of X G z8, PySem.W.mg_none_of X G z9, PySem.W.mg_none_of X G z10, PySem.W.mg_none_of X G z11, PySem.W.mg_none_of X G z12, PySem.W.mg_none_of X G z13, PySem.W.mg_none_of X G z14, PySem.W.mg_none_of X G z15, PySem.W.mg_none_of X G z16, PySem.W.mg_none_of X G z17⟩
/-- what the written part says of a class of errors with its own __init__ -/
structure ErrC (K : PySem.W.Frag) (x qual fld : Str) (st : Stmt) (ps : List Str) (C : Addr) : Prop where
  ns : PySem.W.nsIn K mainGlobals x = some (some (.ref C))
  o : OexC K C
  xf : XfC K C
  xc : ExcC K C
  noN : PySem.W.findIn K (.ref C) fld = some none
  ini : ∃ (fI : Addr) (fd : FuncData), PySem.W.findIn K (.ref C) "__init__" = some (some (.ref fI)) ∧ PySem.W.typeIn K (.ref fI) = some (.type "function") ∧ Fun K "__init__" qual st fI fd ∧ Binds K fd ps []
theorem err_mk {P : Program} {w : World} {base : Heap} {x qual fld : Str} {st : Stmt} {ps : List Str} {C : Addr} (X : K.In h) (G : h.Ns mainGlobals mg) (e : ErrC K x qual fld st ps C)
    (F : ∀ fI fd, Fun K "__init__" qual st fI fd → FnOk P w K mg base L2.CX0 1 fI fd ps (spInit C fld)) : Err P w K mg base x C fld := by
  obtain ⟨fI, fd, h1, h2, h3, h4⟩ := e.ini
  exact ⟨PySem.W.mg_of X G e.ns, e.o, e.xf, e.xc, e.noN, fI, fd, ps, h1, h2, F fI fd h3, h4⟩
theorem defd_do {R : Prop} (X : K.In h) (G : h.Ns mainGlobals mg) (x : Str) (st : Stmt) (ps : List Str) {f : Addr} {oc : Value} {od an : Option Addr} {osl : Array (Option Value)} {kV doc pm cdv ct : Value}
    (a : PySem.W.nsIn K mainGlobals x = some (some (.ref f)))
    (l : K.lookup f = some ⟨oc, od, .func (PySem.W.fnOf x x (defArgs st) (defBody st) (defScope st) .none kV doc pm an cdv ct), osl⟩)
    (c : PySem.W.codeIn K cdv x = true) (k : PySem.W.keepIn K (.ref f) = true)
    (b : ∀ (kV doc pm : Value) (an : Option Addr) (cdv ct : Value) (us : List Value), us.length = ps.length → bindArgs (PySem.W.fnOf x x (defArgs st) (defBody st) (defScope st) .none kV doc pm an cdv ct) ⟨us, []⟩ = pure (ps.zip us))
    (n : Defd K mg x st ps → R) : R := n (defd_mk X G a l c k b)
theorem lawd_do {R : Prop} (X : K.In h) (G : h.Ns mainGlobals mg) (x : Str) (st : Stmt) (p : Str) {f : Addr} {oc : Value} {od an : Option Addr} {osl : Array (Option Value)} {kV doc pm cdv ct : Value}
    (a : PySem.W.nsIn K mainGlobals x = some (some (.ref f)))
    (l : K.lookup f = some ⟨oc, od, .func (PySem.W.fnOf x x (defArgs st) (defBody st) (defScope st) .none kV doc pm an cdv ct), osl⟩)
    (c : PySem.W.codeIn K cdv x = true) (k : PySem.W.keepIn K (.ref f) = true)
    (b : ∀ (kV doc pm : Value) (an : Option Addr) (cdv ct : Value) (us : List Value), us.length = [p].length → bindArgs (PySem.W.fnOf x x (defArgs st) (defBody st) (defScope st) .none kV doc pm an cdv ct) ⟨us, []⟩ = pure ([p].zip us))
    (n : ∀ (f : Addr) (fd : FuncData), (∀ (s : Shared) (u : Value), BindsTo s fd ⟨[u], []⟩ [(p, u)]) → Fun K x x st f fd → mg x = some (.ref f) → R) : R := by
  obtain ⟨f, fd, h1, h2, h3⟩ := lawd_mk X G a l c k b
  exact n f fd h1 h2 h3
theorem errc_do {R : Prop} (X : K.In h) (x qual fld : Str) (st : Stmt) (ps : List Str) {nm q : Str} {C f N : Addr} {bs bm sub : List Value} {sn : List Str} {ab : Bool} {col : Option Bool} {dd : Option Addr} {k0 k1 k2 k3 k5 : Option Value} {oc : Value} {od an : Option Addr} {osl : Array (Option Value)} {kV doc pm cdv ct : Value}
    (a1 : PySem.W.nsIn K mainGlobals x = some (some (.ref C)))
    (a2 : K.lookup C = some (excClassObj nm q C N bs bm true sn sub ab col dd k0 k1 k2 k3 k5 "ValueError.__new__"))
    (a4 : PySem.W.findIn K (.ref C) "__setattr__" = some (some (.builtin "object.__setattr__")))
    (a5 : PySem.W.subIn K (.ref C) (.type "BaseException") = some true) (a6 : PySem.W.typeIn K (.ref C) = some (.type "type")) (a7 : PySem.W.keepIn K (.ref C) = true)
    (a8 : PySem.W.findIn K (.ref C) "__getattribute__" = some (some (.builtin "BaseException.__getattribute__"))) (a9 : PySem.W.findIn K (.ref C) "__getattr__" = some none)
    (b1 : PySem.W.hasDictIn K C = true) (b2 : PySem.W.findIn K (.ref C) "__class__" = some (some (.builtin "object.__class__")))
    (b3 : PySem.W.specialIn K (.builtin "object.__class__") "__get__" = some (some (.builtin "getset_descriptor.__get__"))) (b4 : PySem.W.takesIn K (.builtin "object.__class__") = some true)
    (b5 : PySem.W.mroIn K C (.type "object") = some true) (b6 : PySem.W.findIn K (.ref C) fld = some none)
    (b7 : PySem.W.findIn K (.ref C) "__init__" = some (some (.ref f))) (b8 : PySem.W.typeIn K (.ref f) = some (.type "function"))
    (b9 : K.lookup f = some ⟨oc, od, .func (PySem.W.fnOf "__init__" qual (defArgs st) (defBody st) (defScope st) .none kV doc pm an cdv ct), osl⟩)
    (c1 : PySem.W.codeIn K cdv qual = true) (c2 : PySem.W.keepIn K (.ref f) = true)
    (b : ∀ (kV doc pm : Value) (an : Option Addr) (cdv ct : Value) (us : List Value), us.length = ps.length → bindArgs (PySem.W.fnOf "__init__" qual (defArgs st) (defBody st) (defScope st) .none kV doc pm an cdv ct) ⟨us, []⟩ = pure (ps.zip us))
    (a3 : PySem.HandSPX.refsVE bm = true) (n : ErrC K x qual fld st ps C → R) : R := by
  refine n ⟨a1, ⟨⟨nm, q, N, bs, bm, sn, sub, ab, col, dd, k0, k1, k2, k3, k5, a2, a3⟩, a4, a5, a6, a7⟩, ⟨a8, a9, a5, b1⟩, ⟨a8, a9, a5, b1, b2, b3, b4, b5⟩, b6, f, _, b7, b8, fun_mk b9 c1 c2, (fun_mk b9 c1 c2).binds b⟩
theorem bi_do {R : Prop} (X : K.In h) (G : h.Ns mainGlobals mg) (z0 : PySem.W.nsIn K mainGlobals "len" = some none) (z1 : PySem.W.nsIn K mainGlobals "int" = some none) (z2 : PySem.W.nsIn K mainGlobals "str" = some none) (z3 : PySem.W.nsIn K mainGlobals "bool" = some none) (z4 : PySem.W.nsIn K mainGlobals "list" = some none) (z5 : PySem.W.nsIn K mainGlobals "tuple" = some none) (z6 : PySem.W.nsIn K mainGlobals "sum" = some none) (z7 : PySem.W.nsIn K mainGlobals "abs" = some none) (z8 : PySem.W.nsIn K mainGlobals "min" = some none) (z9 : PySem.W.nsIn K mainGlobals "max" = some none) (z10 : PySem.W.nsIn K mainGlobals "sorted" = some none) (z11 : PySem.W.nsIn K mainGlobals "all" = some none) (z12 : PySem.W.nsIn K mainGlobals "any" = some none) (z13 : PySem.W.nsIn K mainGlobals "isinstance" = some none) (z14 : PySem.W.nsIn K mainGlobals "range" = some none) (z15 : PySem.W.nsIn K mainGlobals "enumerate" = some none) (z16 : PySem.W.nsIn K mainGlobals "zip" = some none) (z17 : PySem.W.nsIn K mainGlobals "ValueError" = some none) (n : Bi mg → R) : R := n (bi_mk X G z0 z1 z2 z3 z4 z5 z6 z7 z8 z9 z10 z11 z12 z13 z14 z15 z16 z17)
theorem glob_do {R : Prop} (X : K.In h) (G : h.Ns mainGlobals mg) (x : Str) {v : Value} (a : PySem.W.nsIn K mainGlobals x = some (some v)) (n : mg x = some v → R) : R := n (PySem.W.mg_of X G a)
end
theorem exm_mk {K : PySem.W.Frag} {C S : Addr} (h1 : PySem.W.subIn K (.ref S) (.type "BaseException") = some true) (h2 : PySem.W.isClsIn K S = true) (h3 : PySem.W.typeIn K (.ref S) = some (.type "type")) (h4 : PySem.W.subIn K (.ref C) (.ref S) = some true) :
    PySem.W.exmOne K (.ref C) (.ref S) = some true := by
  have e1 : (PySem.W.subIn K (.ref S) (.type "BaseException") == some true) = true := by rw [h1] <;> rfl
  have e2 : ((PySem.W.clsIn K S).isSome && PySem.W.typeIn K (.ref S) == some (.type "type")) = true := by
    have h2' : (PySem.W.clsIn K S).isSome = true := h2
    rw [h2', h3] <;> rfl
  show (if (PySem.W.subIn K (.ref S) (.type "BaseException") == some true) = true then (if ((PySem.W.clsIn K S).isSome && PySem.W.typeIn K (.ref S) == some (.type "type")) = true then PySem.W.subIn K (.ref C) (.ref S) else none) else none) = some true
  rw [if_pos e1, if_pos e2]
  exact h4
theorem r_ost {K : PySem.W.Frag} {σ : L2.St} {H : Hp} {D : Ends} {a C : Addr} {fld : Str} {i j : Nat} {v : V} (hi : σ[i]? = some (some (.ref a))) (hj : σ[j]? = some (some v)) (o : OexC K C) (n : PySem.W.findIn K (.ref C) fld = some none) (h : H a = some (exo a C none))
    (q : ∀ dx, H dx = none → dx ≠ a → D.nx σ (upd (upd H dx (exd dx [(fld, v)])) a (exo a C (some dx)))) : tOst K fld (tVar i) (tVar j) D σ H :=
  ⟨v, hj, .ref a, hi, a, C, rfl, o, n, .inl ⟨h, q⟩⟩
end Fg

set_option Elab.async false
set_option linter.all false
namespace Fm
/-! ### rounds, shown for ever -/
def at' (l : List Nat) (t : Nat) : Nat := l.getD (t % l.length) 0
def Same (a b : List Nat) : Prop := ∀ t, at' a t = at' b t
noncomputable def SameB (a b : List Nat) : Bool := @decide (Same a b) (Classical.propDecidable _)
theorem sameB {a b : List Nat} : SameB a b = true ↔ Same a b := by unfold SameB; simp
theorem sameB_false {a b : List Nat} : SameB a b = false ↔ ¬ Same a b := by unfold SameB; simp
theorem at_mod (l : List Nat) {m t : Nat} (h : l.length ∣ m) : at' l (t % m) = at' l t := by
  unfold at'
  rw [Nat.mod_mod_of_dvd t h]
theorem at_add (l : List Nat) (t k : Nat) : at' l (t + l.length * k) = at' l t := by
  unfold at'
  rw [Nat.add_mul_mod_self_left]
theorem same_upto {a b : List Nat} (ha : a ≠ []) (hb : b ≠ []) (h : ∀ t, t < a.length * b.length + 24 → at' a t = at' b t) : Same a b := fun t => by
  have h1 : 0 < a.length := List.length_pos_iff.mpr ha
  have h2 : 0 < b.length := List.length_pos_iff.mpr hb
  have hp : 0 < a.length * b.length := Nat.mul_pos h1 h2
  have := h (t % (a.length * b.length)) (by have := Nat.mod_lt t hp; omega)
  rwa [at_mod a (Nat.dvd_mul_right _ _), at_mod b (Nat.dvd_mul_left _ _)] at this
theorem Same.symm {a b : List Nat} (h : Same a b) : Same b a := fun t => (h t).symm
theorem Same.trans {a b c : List Nat} (h : Same a b) (k : Same b c) : Same a c := fun t => (h t).trans (k t)
theorem at_lt {l : List Nat} {t : Nat} (h : t < l.length) : at' l t = l.getD t 0 := by unfold at'; rw [Nat.mod_eq_of_lt h]
/-! ### periods -/
def Per (f : Nat → Nat) (s : Nat) : Prop := ∀ t, f (t + s) = f t
theorem Per.mul {f : Nat → Nat} {s : Nat} (h : Per f s) : ∀ (k t : Nat), f (t + s * k) = f t
  | 0, t => by rw [Nat.mul_zero, Nat.add_zero]
  | k + 1, t => by
    rw [Nat.mul_add, Nat.mul_one, ← Nat.add_assoc, h, Per.mul h k t]
theorem Per.mod {f : Nat → Nat} {s : Nat} (h : Per f s) (t : Nat) : f (t % s) = f t := by
  have e := Nat.mod_add_div t s
  have := h.mul (t / s) (t % s)
  rw [e] at this
  exact this.symm
theorem Per.gcd {f : Nat → Nat} : ∀ (s n : Nat), Per f s → Per f n → Per f (Nat.gcd s n) := by
  intro s n
  induction s, n using Nat.gcd.induction with
  | H0 n => intro _ h; rw [Nat.gcd_zero_left]; exact h
  | H1 m n hm ih =>
    intro h1 h2
    rw [Nat.gcd_rec]
    refine ih (fun t => ?_) h1
    have e : t + n % m + m * (n / m) = t + n := by have := Nat.mod_add_div n m; omega
    have := h1.mul (n / m) (t + n % m)
    rw [e, h2] at this
    exact this.symm
theorem per_len (l : List Nat) : Per (at' l) l.length := fun t => by
  have := at_add l t 1
  rwa [Nat.mul_one] at this
theorem take_len {l : List Nat} {k : Nat} (h : k ≤ l.length) : (l.take k).length = k := by rw [List.length_take]; omega
theorem at_take {l : List Nat} {k : Nat} (hk : 1 ≤ k) (h : k ≤ l.length) (t : Nat) : at' (l.take k) t = l.getD (t % k) 0 := by
  unfold at'
  rw [take_len h]
  have h2 := Nat.mod_lt t (show 0 < k by omega)
  rw [List.getD_eq_getElem?_getD, List.getD_eq_getElem?_getD, List.getElem?_take_of_lt h2]
theorem per_of_same {l : List Nat} {k : Nat} (hk : 1 ≤ k) (h : k ≤ l.length) (s : Same (l.take k) l) : Per (at' l) k := fun t => by
  rw [← s (t + k), ← s t]
  have := per_len (l.take k) t
  rwa [take_len h] at this
theorem same_of_per {l : List Nat} {k : Nat} (hk : 1 ≤ k) (h : k ≤ l.length) (p : Per (at' l) k) : Same (l.take k) l := fun t => by
  rw [at_take hk h, ← p.mod t]
  have h2 := Nat.mod_lt t (show 0 < k by omega)
  rw [at_lt (by omega)]
/-! ### the least round -/
noncomputable def perF (l : List Nat) : Nat → Nat → Nat
  | 0, k => k
  | f + 1, k => if SameB (l.take k) l = true then k else perF l f (k + 1)
noncomputable def per (l : List Nat) : Nat := perF l (l.length - 1) 1
noncomputable def lst (l : List Nat) : List Nat := l.take (per l)
theorem perF_spec (l : List Nat) : ∀ (f k : Nat), k + f = l.length → 1 ≤ k → k ≤ perF l f k ∧ perF l f k ≤ l.length ∧ Same (l.take (perF l f k)) l ∧ ∀ j, k ≤ j → j < perF l f k → ¬ Same (l.take j) l
  | 0, k, e, _ => by
    have e2 : k = l.length := by omega
    refine ⟨Nat.le_refl _, by show k ≤ _; omega, ?_, fun j h1 h2 => absurd h2 (by show ¬ j < k; omega)⟩
    show Same (l.take k) l
    rw [e2, List.take_length]
    exact fun _ => rfl
  | f + 1, k, e, hk => by
    unfold perF
    by_cases h : SameB (l.take k) l = true
    · rw [if_pos h]
      exact ⟨Nat.le_refl _, by omega, sameB.mp h, fun j h1 h2 => absurd h2 (by omega)⟩
    · rw [if_neg h]
      obtain ⟨h1, h2, h3, h4⟩ := perF_spec l f (k + 1) (by omega) (by omega)
      refine ⟨by omega, h2, h3, fun j h5 h6 => ?_⟩
      by_cases hj : j = k
      · rw [hj]; exact fun z => h (sameB.mpr z)
      · exact h4 j (by omega) h6
theorem per_spec {l : List Nat} (h : l ≠ []) : 1 ≤ per l ∧ per l ≤ l.length ∧ Same (lst l) l ∧ ∀ j, 1 ≤ j → j < per l → ¬ Same (l.take j) l := by
  have h1 : 0 < l.length := List.length_pos_iff.mpr h
  exact perF_spec l (l.length - 1) 1 (by omega) (by omega)
theorem per_uniq {l : List Nat} {k : Nat} (h : l ≠ []) (h1 : 1 ≤ k) (h2 : k ≤ l.length) (h3 : Same (l.take k) l) (h4 : ∀ j, 1 ≤ j → j < k → ¬ Same (l.take j) l) : k = per l := by
  obtain ⟨p1, p2, p3, p4⟩ := per_spec h
  rcases Nat.lt_trichotomy k (per l) with q | q | q
  · exact absurd h3 (p4 k h1 q)
  · exact q
  · exact absurd p3 (h4 (per l) p1 q)
theorem per_le_of {l : List Nat} {k : Nat} (h : l ≠ []) (h1 : 1 ≤ k) (h3 : Same (l.take k) l) : per l ≤ k := by
  obtain ⟨p1, p2, p3, p4⟩ := per_spec h
  by_cases q : per l ≤ k
  · exact q
  · exact absurd h3 (p4 k h1 (by omega))
theorem per_dvd {l : List Nat} (h : l ≠ []) : per l ∣ l.length := by
  obtain ⟨p1, p2, p3, p4⟩ := per_spec h
  have hp := per_of_same p1 p2 p3
  have hg := Per.gcd _ _ hp (per_len l)
  have g1 : 1 ≤ Nat.gcd (per l) l.length := Nat.gcd_pos_of_pos_left _ (by omega)
  have g2 : Nat.gcd (per l) l.length ≤ per l := Nat.gcd_le_left _ (by omega)
  have := per_le_of h g1 (same_of_per g1 (by omega) hg)
  have e : Nat.gcd (per l) l.length = per l := by omega
  rw [← e]
  exact Nat.gcd_dvd_right _ _
/-! ### a beginning, shown so many times -/
theorem rep_get (m : List Nat) : ∀ (q i : Nat), i < q * m.length → ((List.replicate q m).flatten)[i]? = m[i % m.length]?
  | 0, i, h => by simp at h
  | q + 1, i, h => by
    rw [List.replicate_succ, List.flatten_cons]
    by_cases hi : i < m.length
    · rw [List.getElem?_append_left hi, Nat.mod_eq_of_lt hi]
    · rw [List.getElem?_append_right (by omega), rep_get m q (i - m.length) (by rw [Nat.add_mul, Nat.one_mul] at h; omega)]
      have : (i - m.length) % m.length = i % m.length := by
        rw [← Nat.mod_eq_sub_mod (by omega)]
      rw [this]
theorem rep_len (m : List Nat) (q : Nat) : ((List.replicate q m).flatten).length = q * m.length := by
  rw [List.length_flatten, List.map_replicate, List.sum_replicate_nat]
def Rep (l : List Nat) (k : Nat) : Prop := (List.replicate (l.length / k) (l.take k)).flatten = l
theorem rep_iff {l : List Nat} {k : Nat} (h1 : 1 ≤ k) (h2 : k ≤ l.length) : Rep l k ↔ (k ∣ l.length ∧ Same (l.take k) l) := by
  constructor
  · intro h
    have hl := congrArg List.length h
    rw [rep_len, take_len h2] at hl
    have hd : k ∣ l.length := ⟨l.length / k, by rw [Nat.mul_comm]; exact hl.symm⟩
    refine ⟨hd, fun t => ?_⟩
    rw [at_take h1 h2]
    unfold at'
    have ht : t % l.length < l.length := Nat.mod_lt _ (by omega)
    have g := rep_get (l.take k) (l.length / k) (t % l.length) (by rw [take_len h2, hl]; exact ht)
    have h' : (List.replicate (l.length / k) (l.take k)).flatten = l := h
    rw [h', take_len h2, Nat.mod_mod_of_dvd t hd, List.getElem?_take_of_lt (Nat.mod_lt t (by omega))] at g
    rw [List.getD_eq_getElem?_getD, List.getD_eq_getElem?_getD, g]
  · rintro ⟨hd, s⟩
    have hq : l.length / k * k = l.length := Nat.div_mul_cancel hd
    apply List.ext_getElem?
    intro i
    by_cases hi : i < l.length
    · rw [rep_get _ _ _ (by rw [take_len h2, hq]; exact hi), take_len h2, List.getElem?_take_of_lt (Nat.mod_lt i (by omega))]
      have e := s i
      rw [at_take h1 h2, at_lt hi, List.getD_eq_getElem?_getD, List.getD_eq_getElem?_getD] at e
      have h3 : i % k < l.length := by have := Nat.mod_lt i (show 0 < k by omega); omega
      rw [List.getElem?_eq_getElem h3, List.getElem?_eq_getElem hi] at e ⊢
      exact congrArg some e
    · rw [List.getElem?_eq_none (by rw [rep_len, take_len h2, hq]; omega), List.getElem?_eq_none (by omega)]
/-- the first size at which the beginning, shown again and again, is the round, is that of the least round -/
theorem rep_least {l : List Nat} {k : Nat} (h : l ≠ []) (h1 : 1 ≤ k) (h2 : k ≤ l.length) (h3 : Rep l k) (h4 : ∀ j, 1 ≤ j → j < k → ¬ Rep l j) : k = per l := by
  obtain ⟨p1, p2, p3, p4⟩ := per_spec h
  have hr := (rep_iff h1 h2).mp h3
  have hp : Rep l (per l) := (rep_iff p1 p2).mpr ⟨per_dvd h, p3⟩
  have a : per l ≤ k := per_le_of h h1 hr.2
  by_cases e : per l = k
  · exact e.symm
  · exact absurd hp (h4 _ p1 (by omega))
theorem rep_last {l : List Nat} (h : l ≠ []) : Rep l l.length := by
  have h1 : 0 < l.length := List.length_pos_iff.mpr h
  exact (rep_iff (by omega) (Nat.le_refl _)).mpr ⟨Nat.dvd_refl _, by rw [List.take_length]; exact fun _ => rfl⟩
/-! ### turns -/
def rot (l : List Nat) (n : Nat) : List Nat := (List.range l.length).map fun i => at' l (i + n)
theorem rot_len (l : List Nat) (n : Nat) : (rot l n).length = l.length := by unfold rot; simp
theorem rot_get {l : List Nat} {n i : Nat} (h : i < l.length) : (rot l n)[i]? = some (at' l (i + n)) := by
  unfold rot
  rw [List.getElem?_map, List.getElem?_range h]
  rfl
theorem at_rot {l : List Nat} (h : l ≠ []) (n t : Nat) : at' (rot l n) t = at' l (t + n) := by
  have h1 : 0 < l.length := List.length_pos_iff.mpr h
  have h2 := Nat.mod_lt t h1
  show (rot l n).getD (t % (rot l n).length) 0 = _
  rw [rot_len, List.getD_eq_getElem?_getD, rot_get h2]
  show at' l (t % l.length + n) = _
  unfold at'
  rw [Nat.mod_add_mod]
theorem turn_eq {l : List Nat} (h : l ≠ []) (n : Nat) : l.drop (n % l.length) ++ l.take (n % l.length) = rot l n := by
  have h1 : 0 < l.length := List.length_pos_iff.mpr h
  have h2 := Nat.mod_lt n h1
  apply List.ext_getElem?
  intro i
  by_cases hi : i < l.length
  · rw [rot_get hi]
    by_cases hj : i < l.length - n % l.length
    · rw [List.getElem?_append_left (by rw [List.length_drop]; exact hj), List.getElem?_drop]
      have h3 : n % l.length + i < l.length := by omega
      rw [List.getElem?_eq_getElem h3]
      unfold at'
      have e : (i + n) % l.length = n % l.length + i := by
        rw [← Nat.add_mod_mod, Nat.add_comm i, Nat.mod_eq_of_lt h3]
      rw [e, List.getD_eq_getElem?_getD, List.getElem?_eq_getElem h3]
      rfl
    · rw [List.getElem?_append_right (by rw [List.length_drop]; omega), List.length_drop]
      have h3 : i - (l.length - n % l.length) < n % l.length := by omega
      have h4 : i - (l.length - n % l.length) < l.length := by omega
      rw [List.getElem?_take_of_lt h3, List.getElem?_eq_getElem h4]
      unfold at'
      have e : (i + n) % l.length = i - (l.length - n % l.length) := by
        rw [← Nat.add_mod_mod]
        have e2 : i + n % l.length = (i - (l.length - n % l.length)) + l.length := by omega
        rw [e2, Nat.add_mod_right, Nat.mod_eq_of_lt h4]
      rw [e, List.getD_eq_getElem?_getD, List.getElem?_eq_getElem h4]
      rfl
  · rw [List.getElem?_eq_none (by rw [List.length_append, List.length_drop, List.length_take]; omega), List.getElem?_eq_none (by rw [rot_len]; omega)]
/-! ### alike -/
theorem same_len {a b : List Nat} (ha : a ≠ []) (hb : b ≠ []) (s : Same a b) : per a = per b := by
  have key : ∀ {a b : List Nat}, a ≠ [] → b ≠ [] → Same a b → per b ≤ per a := by
    intro a b ha hb s
    obtain ⟨p1, p2, p3, p4⟩ := per_spec ha
    obtain ⟨q1, q2, q3, q4⟩ := per_spec hb
    have hp : Per (at' b) (per a) := fun t => by rw [← s, ← s]; exact per_of_same p1 p2 p3 t
    have hg := Per.gcd _ _ hp (per_len b)
    have hb1 : 0 < b.length := List.length_pos_iff.mpr hb
    have g1 : 1 ≤ Nat.gcd (per a) b.length := Nat.gcd_pos_of_pos_right _ hb1
    have g2 : Nat.gcd (per a) b.length ≤ per a := Nat.gcd_le_left _ (by omega)
    have g3 : Nat.gcd (per a) b.length ≤ b.length := Nat.gcd_le_right _ hb1
    have := per_le_of hb g1 (same_of_per g1 g3 hg)
    omega
  exact Nat.le_antisymm (key hb ha s.symm) (key ha hb s)
theorem lst_ne {a : List Nat} (ha : a ≠ []) : lst a ≠ [] := by
  obtain ⟨p1, p2, _, _⟩ := per_spec ha
  intro e
  have := congrArg List.length e
  unfold lst at this
  rw [take_len p2] at this
  simp at this
  omega
theorem lst_len {a : List Nat} (ha : a ≠ []) : (lst a).length = per a := take_len (per_spec ha).2.1
theorem eq_of_same {a b : List Nat} (hl : a.length = b.length) (s : Same a b) : a = b := by
  apply List.ext_getElem?
  intro i
  by_cases hi : i < a.length
  · have := s i
    rw [at_lt hi, at_lt (by omega), List.getD_eq_getElem?_getD, List.getD_eq_getElem?_getD, List.getElem?_eq_getElem hi, List.getElem?_eq_getElem (show i < b.length by omega)] at this
    rw [List.getElem?_eq_getElem hi, List.getElem?_eq_getElem (show i < b.length by omega)]
    exact congrArg some this
  · rw [List.getElem?_eq_none (by omega), List.getElem?_eq_none (by omega)]
theorem alike_iff {a b : List Nat} (ha : a ≠ []) (hb : b ≠ []) : lst a = lst b ↔ Same a b := by
  constructor
  · intro e
    have h1 := (per_spec ha).2.2.1
    have h2 := (per_spec hb).2.2.1
    rw [e] at h1
    exact h1.symm.trans h2
  · intro s
    refine eq_of_same ?_ (((per_spec ha).2.2.1.trans s).trans (per_spec hb).2.2.1.symm)
    rw [lst_len ha, lst_len hb, same_len ha hb s]
theorem rot_ne {l : List Nat} (h : l ≠ []) (n : Nat) : rot l n ≠ [] := by
  intro e
  have := congrArg List.length e
  rw [rot_len] at this
  exact h (List.length_eq_zero_iff.mp this)
theorem rot_same {a b : List Nat} (ha : a ≠ []) (hb : b ≠ []) (n : Nat) (s : Same a b) : Same (rot a n) (rot b n) := fun t => by
  rw [at_rot ha, at_rot hb]
  exact s _
theorem per_rot {l : List Nat} (h : l ≠ []) (n : Nat) : per (rot l n) = per l := by
  have key : ∀ (l : List Nat) (n : Nat), l ≠ [] → per (rot l n) ≤ per l := by
    intro l n h
    obtain ⟨p1, p2, p3, p4⟩ := per_spec h
    have hp := per_of_same p1 p2 p3
    have hp2 : Per (at' (rot l n)) (per l) := fun t => by
      rw [at_rot h, at_rot h, show t + per l + n = t + n + per l by omega]
      exact hp _
    exact per_le_of (rot_ne h n) p1 (same_of_per p1 (by rw [rot_len]; exact p2) hp2)
  refine Nat.le_antisymm (key l n h) ?_
  -- turned on to a whole number of rounds
  have h1 : 0 < l.length := List.length_pos_iff.mpr h
  have h2 := key (rot l n) (l.length * (n + 1) - n) (rot_ne h n)
  have e : rot (rot l n) (l.length * (n + 1) - n) = l := by
    refine eq_of_same (by rw [rot_len, rot_len]) fun t => ?_
    rw [at_rot (rot_ne h n), at_rot h]
    have h3 : n ≤ l.length * (n + 1) := Nat.le_trans (Nat.le_succ n) (Nat.le_mul_of_pos_left _ h1)
    rw [show t + (l.length * (n + 1) - n) + n = t + l.length * (n + 1) by omega, at_add]
  rw [e] at h2
  exact h2
theorem moment_iff {a b : List Nat} (ha : a ≠ []) (hb : b ≠ []) (n : Nat) : rot (lst b) n = lst a ↔ Same (rot b n) a := by
  have sb := (per_spec hb).2.2.1
  have sa := (per_spec ha).2.2.1
  have sr := rot_same (lst_ne hb) hb n sb
  constructor
  · intro e
    rw [e] at sr
    exact sr.symm.trans sa
  · intro s
    refine eq_of_same ?_ ((sr.trans s).trans sa.symm)
    rw [rot_len, lst_len hb, lst_len ha, ← same_len (rot_ne hb n) ha s, per_rot hb]
end Fm

set_option Elab.async false
set_option linter.all false
set_option maxRecDepth 100000
set_option maxHeartbeats 4000000
namespace Fk
open PySem PySem.Spec PyProof.Rows L2 Fg
def topS (i : Nat) : Stmt := PySem.Challenge.pw_falseglim_k07_rounds_for_ever.main.body.getD i (.Pass ⟨0, 0, 0, 0⟩)
local macro_rules | `(tactic| walk_at "rd1") => `(tactic| first
  | with_reducible refine r_seq ?_
  | with_reducible refine r_asg ?_
  | with_reducible refine r_gname ?_
  | with_reducible refine r_gsub ?_
  | with_reducible refine r_ret ?_
  | with_reducible refine r_retN ?_
  | with_reducible refine r_next ?_
  | with_reducible refine r_drop ?_
  | with_reducible refine r_ifS ?_
  | with_reducible refine r_if ?_
  | with_reducible refine r_par ?_
  | with_reducible refine r_pair ?_
  | with_reducible refine r_test ?_
  | with_reducible refine r_tB ?_
  | with_reducible refine r_not ?_
  | with_reducible refine r_and ?_
  | with_reducible refine r_or ?_
  | with_reducible refine r_andV ?_
  | with_reducible refine r_orV ?_
  | with_reducible refine r_notV ?_
  | with_reducible refine r_nil ?_
  | with_reducible refine r_cons ?_
  | with_reducible refine r_call ?_
  | with_reducible refine r_callS ?_
  | with_reducible refine r_cb ?_
  | with_reducible refine r_then ?_
  | with_reducible refine r_tup ?_
  | with_reducible refine r_lst ?_
  | with_reducible refine r_sl ?_
  | with_reducible refine r_nopart ?_
  | with_reducible refine r_part ?_
  | with_reducible refine r_lcR1 ?_
  | with_reducible refine r_lcR2 ?_
  | with_reducible refine r_lcL ?_
  | with_reducible refine r_lcT ?_
  | with_reducible refine r_forR1 ?_
  | with_reducible refine r_forR2 ?_
  | with_reducible refine r_forL ?_
  | with_reducible refine r_forT ?_
  | with_reducible refine r_forE ?_
  | with_reducible refine r_strE ?_
  | ((with_reducible refine r_rng1 ?hc ?_); (case hc => omega))
  | ((with_reducible refine r_rng2 ?hc ?_); (case hc => omega))
  | ((with_reducible refine' r_refL ?hc ?_); (case hc => first | assumption | exact Evl.sq_of (by assumption)))
  | ((with_reducible refine' r_refT ?hc ?_); (case hc => first | assumption | exact Evl.st_of (by assumption)))
  | with_reducible refine r_op ?_
  | with_reducible refine r_un ?_
  | with_reducible refine r_chain ?_
  | ((with_reducible refine' r_var ?hv ?_); (case hv => exact rfl))
  | with_reducible refine r_cs ?_
  | with_reducible refine r_c ?_
  | with_reducible refine r_yes ?_
  | with_reducible refine r_bm ?_
  | with_reducible refine r_bl ?_
  | with_reducible refine r_in ?_
  | with_reducible refine r_ty ?_
  | with_reducible refine r_I0 ?_
  | ((with_reducible refine r_I ?hc ?_); (case hc => first | assumption | (show (0 : Int) < _; decide) | exact Or.inr ⟨by decide, by decide⟩ | exact Or.inr ⟨by omega, by omega⟩ | exact Or.inl ⟨by decide, by decide⟩ | exact (show CDivW _ _ from ⟨by decide, by decide +kernel⟩) | exact (show CPowW _ _ from ⟨by decide, by decide +kernel⟩) | (show (0 : Int) < _; omega)))
  | with_reducible refine r_U ?_
  | with_reducible refine r_eqI ?_
  | with_reducible refine r_neI ?_
  | with_reducible refine r_eqS ?_
  | with_reducible refine r_neS ?_
  | with_reducible refine r_eqB ?_
  | with_reducible refine r_neB ?_
  | with_reducible refine r_niS ?_
  | with_reducible refine r_inSS ?_
  | ((with_reducible refine r_slSS ?hc ?_); (case hc => first | exact small (by omega) | exact small (by simp; omega)))
  | ((with_reducible refine r_lenS ?hc ?_); (case hc => first | exact small (by omega) | exact small (by simp; omega)))
  | ((with_reducible refine' r_lenL ?hc ?_); (case hc => first | assumption | exact Evl.sq_of (by assumption)))
  | ((with_reducible refine' r_lenT ?hc ?_); (case hc => first | assumption | exact Evl.st_of (by assumption)))
  | ((with_reducible refine' r_ixL ?h1 ?h2 ?h3 ?_); (case h1 => first | assumption | exact Evl.sq_of (by assumption) | exact Evl.sq_of upd_same); (case h2 => first | decide | omega); (case h3 => first | exact rfl | assumption))
  | ((with_reducible refine' r_ixT ?h1 ?h2 ?h3 ?_); (case h1 => first | assumption | exact Evl.st_of (by assumption)); (case h2 => first | decide | omega); (case h3 => first | exact rfl | assumption))
  | with_reducible refine r_T ?_
  | with_reducible refine r_F ?_
  | ((with_reducible refine' r_sum ?hc ?_); (case hc => first | assumption | exact Evl.sq_of (by assumption)))
  | ((with_reducible refine' r_setL ?h1 ?h2 ?h3 ?_); (case h1 => first | assumption | exact upd_same); (case h2 => first | decide | omega); (case h3 => first | (show _ < _; decide) | (simp; done)))
  | with_reducible refine r_int ?_
  | with_reducible refine r_abs ?_)
local macro_rules | `(tactic| walk_at "rd") => `(tactic| repeat (walk_at "rd1"))

section
variable {P : Program} {w : World} {K : PySem.W.Frag} {mg : Str → Option Value} {base : Heap}
abbrev s_l_mix : Stmt := topS 22
abbrev N_l_mix : List Str := ["_law_cell", "_law_turn", "_law_one", "_law_two"]
theorem sc_l_mix : FnScope ["_law_cell", "_law_turn", "_law_one", "_law_two"] ["_law_cell", "_law_turn"] (defScope s_l_mix) := ⟨rfl, rfl, rfl, by decide +kernel, rfl, by decide +kernel, by decide +kernel⟩
def spMix : Sp := fun vs H Q _ => ∃ a b : Int, vs = [.int a, .int b] ∧ ∀ k : Int, Q (.int k) H
theorem can_mix (T : Bi mg) (F : Defd K mg "_law_mix" s_l_mix ["_law_cell", "_law_turn"]) : Can P w K mg base L2.CX0 1 "_law_mix" ["_law_cell", "_law_turn"] spMix := by
  refine can0 F sc_l_mix (fun vs H Q E h => ?_) (fun f cdv A outer s H vs Q E hr h => ⟨_, (pss_cons (ps_set (i := 2) sc_l_mix.nd rfl (by first | exact Or.inl rfl | exact Or.inr rfl) (pe_op op_mod (pe_callTy call_intI (by rfl) T.b_int boot_int (pa_cons (pe_op op_add (pe_op op_add (pe_op op_mul (pv 0) pe_int) (pe_op op_mul (pv 1) pe_int)) pe_int) pa_nil)) pe_int))
  (pss_cons (ps_set (i := 3) sc_l_mix.nd rfl (by first | exact Or.inl rfl | exact Or.inr rfl) (pe_op op_mod (pe_callTy call_intI (by rfl) T.b_int boot_int (pa_cons (pe_op op_add (pe_op op_add (pe_op op_mul (pv 2) (pv 2)) (pe_op op_mul (pv 1) pe_int)) (pv 0)) pa_nil)) pe_int))
  (pss_cons (ps_set (i := 3) sc_l_mix.nd rfl (by first | exact Or.inl rfl | exact Or.inr rfl) (pe_op op_mod (pe_callTy call_intI (by rfl) T.b_int boot_int (pa_cons (pe_op op_add (pe_op op_mul (pv 3) (pv 3)) (pv 2)) pa_nil)) pe_int))
  (pss_one (ps_ret (pe_op op_fdivW (pv 3) pe_int)))))), ?_⟩)
  · obtain ⟨a, b, rfl, _⟩ := h
    rfl
  · obtain ⟨a, b, rfl, q⟩ := h
    walk_at "rd"
    exact q _
abbrev s_l_draw : Stmt := topS 21
abbrev N_l_draw : List Str := ["_law_script", "_law_cells", "_law_cell"]
theorem sc_l_draw : FnScope ["_law_script", "_law_cells", "_law_cell"] ["_law_script"] (defScope s_l_draw) := ⟨rfl, rfl, rfl, by decide +kernel, rfl, by decide +kernel, by decide +kernel⟩abbrev s_l_pick : Stmt := topS 23
abbrev N_l_pick : List Str := ["_law_draw_here", "_law_many", "_law_cell", "_law_digit", "_law_found"]
theorem sc_l_pick : FnScope ["_law_draw_here", "_law_many", "_law_cell", "_law_digit", "_law_found"] ["_law_draw_here", "_law_many"] (defScope s_l_pick) := ⟨rfl, rfl, rfl, by decide +kernel, rfl, by decide +kernel, by decide +kernel⟩
abbrev Big : Int := (10 ^ 60) ^ 64
/-- a draw at d: its cells at c -/
structure Dr (ns : List Int) (c d : Addr) (H : Hp) : Prop where
  ne : c ≠ d
  cells : H c = some (.lst (ns.map V.int))
  ex : ∃ i n big cnt base : Int, H d = some (.lst [.ref c, .int i, .int big, .int cnt, .int n, .int base]) ∧ 0 ≤ i
theorem Dr.ex' {ns : List Int} {c d : Addr} {H H' : Hp} (D : Dr ns c d H) (e : Ex H H') : Dr ns c d H' := ⟨D.ne, e _ _ D.cells, by
  obtain ⟨i, n, big, cnt, base, h, r⟩ := D.ex
  exact ⟨i, n, big, cnt, base, e _ _ h, r⟩⟩
theorem Dr.put {ns : List Int} {c d : Addr} {H : Hp} (D : Dr ns c d H) {i n big cnt base : Int} (hi : 0 ≤ i) : Dr ns c d (upd H d (.lst [.ref c, .int i, .int big, .int cnt, .int n, .int base])) :=
  ⟨D.ne, by rw [upd_ne D.ne]; exact D.cells, i, n, big, cnt, base, upd_same, hi⟩
theorem Dr.put2 {ns : List Int} {c d : Addr} {H : Hp} {o : HO} (D : Dr ns c d H) {i n big cnt base : Int} (hi : 0 ≤ i) : Dr ns c d (upd (upd H d o) d (.lst [.ref c, .int i, .int big, .int cnt, .int n, .int base])) := by
  rw [upd_upd]
  exact D.put hi
theorem Dr.put3 {ns : List Int} {c d : Addr} {H : Hp} {o o' : HO} (D : Dr ns c d H) {i n big cnt base : Int} (hi : 0 ≤ i) : Dr ns c d (upd (upd (upd H d o) d o') d (.lst [.ref c, .int i, .int big, .int cnt, .int n, .int base])) := by
  rw [upd_upd]
  exact D.put2 hi
theorem kp2 {d : Addr} {H : Hp} {o o' : HO} : Kp d H (upd (upd H d o) d o') := by rw [upd_upd]; exact Kp.upd
theorem kp3 {d : Addr} {H : Hp} {o o' o2 : HO} : Kp d H (upd (upd (upd H d o) d o') d o2) := by rw [upd_upd]; exact kp2
theorem cell_at {ns : List Int} {i : Int} (h0 : 0 ≤ i) (h : i < (ns.map V.int).length) : ∃ z : Int, (ns.map V.int)[i.toNat]? = some (.int z) := by
  have h1 : i.toNat < ns.length := by rw [List.length_map] at h; omega
  exact ⟨ns[i.toNat], by rw [List.getElem?_map, List.getElem?_eq_getElem h1]; rfl⟩
def spDraw (K : PySem.W.Frag) : Sp := fun vs H Q _ => ∃ (a : Addr) (ns : List Int), vs = [.ref a] ∧ SqL K H a (ns.map V.int) ∧ ns.length ≤ 63 ∧ ∀ c d H', H c = none → H d = none → Ex H H' → Dr ns c d H' → Q (.ref d) H'
def spPick : Sp := fun vs H Q _ => ∃ (c d : Addr) (m : Int) (ns : List Int), vs = [.ref d, .int m] ∧ Dr ns c d H ∧ m < 2 ^ 200 ∧ ∀ (k : Int) H', 0 ≤ k → (k < m ∨ k = 0) → Kp d H H' → Dr ns c d H' → Q (.int k) H'
theorem can_draw (T : Bi mg) (F : Defd K mg "_law_draw" s_l_draw ["_law_script"]) : Can P w K mg base L2.CX0 1 "_law_draw" ["_law_script"] (spDraw K) := by
  refine can0 F sc_l_draw (fun vs H Q E h => ?_) (fun f cdv A outer s H vs Q E hr h => ⟨_, (pss_cons (ps_setLc (i := 1) (own := [("_law_cell", 2)]) (g := gName 2) (tt := tYes) rfl sc_l_draw.nd rfl rfl (sw_true rfl rfl rfl (by decide +kernel)) (pi_list (pv 0)) (blkOk_by (N := N_l_draw) (sc := defScope s_l_draw) (by decide +kernel)) (fun _ _ _ _ _ => pg_name (i := 2) sc_l_draw.nd rfl (Or.inl rfl)) (fun _ _ _ _ _ => pts_nil) (fun _ _ _ _ _ => (pv 2)))
  (pss_one (ps_ret (pe_lst (pa_cons (pv 1) (pa_cons pe_int (pa_cons pe_int (pa_cons pe_int (pa_cons pe_int (pa_cons (pe_op op_add (pe_op op_mod (pe_callTy call_intI (by rfl) T.b_int boot_int (pa_cons (pe_callB (cr_sum rfl) (by rfl) T.b_sum boot_sum (pa_cons (pv 1) pa_nil)) pa_nil)) pe_int) (pe_op op_mul pe_int (pe_callB call_lenQ (by rfl) T.b_len boot_len (pa_cons (pv 1) pa_nil)))) pa_nil)))))))))), ?_⟩)
  · obtain ⟨a, ns, rfl, _⟩ := h
    rfl
  · obtain ⟨a, ns, rfl, hS, hl, q⟩ := h
    walk_at "rd"
    refine lcL (xs := ns.map V.int) (fun D i acc H2 => Ex H H2 ∧ acc = (ns.take i).map V.int) (fun _ => rfl) (fun D hD => ⟨Evl.Ex.new hD, rfl⟩) (fun D i H2 acc _ h => Evl.ex_l h.1 hS) (fun D i x H2 acc hD hx h1 h2 h3 => ?_) (fun D H2 acc hD h1 h3 => ?_)
    · obtain ⟨e, rfl⟩ := h3
      have hi : i < 63 := by
        have := lt_of_get hx
        rw [List.length_map] at this
        omega
      walk_at "rd"
      exact lc_end (by omega) h2 h1 ⟨Evl.Ex.mut e hD, (take_map hx).symm⟩
    · obtain ⟨e, rfl⟩ := h3
      rw [List.take_of_length_le (by rw [List.length_map]; omega)] at h1
      walk_at "rd"
      refine ⟨small (by show 6 ≤ 1000000; decide), fun p hp => ?_⟩
      have ne : D ≠ p := ne_of_none h1 hp
      refine q D p _ hD (Evl.fresh_back e hp) (e.trans (Evl.Ex.new hp)) ⟨ne, ?_, _, _, _, _, _, upd_same, Int.le_refl _⟩
      rw [upd_ne ne]
      exact h1
theorem can_pick (T : Bi mg) (F : Defd K mg "_law_pick" s_l_pick ["_law_draw_here", "_law_many"]) (C_l_mix : Can P w K mg base L2.CX0 1 "_law_mix" ["_law_cell", "_law_turn"] spMix) : Can P w K mg base L2.CX0 2 "_law_pick" ["_law_draw_here", "_law_many"] spPick := by
  refine can0 F sc_l_pick (fun vs H Q E h => ?_) (fun f cdv A outer s H vs Q E hr h => ⟨_, (pss_cons (ps_if (pt_cmpR op_lt (pv 1) pe_int (nomark _)) (pss_one (ps_ret pe_int)) pss_nil)
  (Evl.pss_cut (ps_if (PW.pt (pw_and (pt_cmpR op_eq (pe_ix ix_list (pv 0) pe_int (fun _ _ => rfl)) pe_int (nomark _)) (pw_and (pt_cmpR op_lt (pe_ix ix_list (pv 0) pe_int (fun _ _ => rfl)) (pe_callB call_lenQ (by rfl) T.b_len boot_len (pa_cons (pe_ix ix_list (pv 0) pe_int (fun _ _ => rfl)) pa_nil)) (nomark _)) (pw_and1 (pt_cmpR op_eq (pe_ix ix_list (pv 0) pe_int (fun _ _ => rfl)) pe_int (nomark _)))))) (pss_cons (ps_set (i := 2) sc_l_pick.nd rfl (by first | exact Or.inl rfl | exact Or.inr rfl) (pe_ix ix_list (pe_ix ix_list (pv 0) pe_int (fun _ _ => rfl)) (pe_ix ix_list (pv 0) pe_int (fun _ _ => rfl)) (fun _ _ => rfl)))
  (pss_one (ps_if (PW.pt (pw_or (pt_cmpR op_ge (pv 2) (pe_op op_powW pe_int pe_int) (nomark _)) (pw_or1 (pt_cmpR op_le (pv 2) (pe_un un_neg (pe_op op_powW pe_int pe_int)) (nomark _))))) (pss_cons (ps_asg (pe_op op_mod (pe_callTy call_intI (by rfl) T.b_int boot_int (pa_cons (pe_callB call_absI (by rfl) T.b_abs boot_abs (pa_cons (pv 2) pa_nil)) pa_nil)) (pe_op op_powW (pe_op op_powW pe_int pe_int) pe_int)) (pg_sub (pv 0) pe_int set_list))
  (pss_one (ps_asg (pe_op op_add (pe_ix ix_list (pv 0) pe_int (fun _ _ => rfl)) pe_int) (pg_sub (pv 0) pe_int set_list)))) pss_nil))) pss_nil)
  (pss_cons (ps_if (pt_cmpR op_gt (pe_ix ix_list (pv 0) pe_int (fun _ _ => rfl)) pe_int (nomark _)) (pss_cons (ps_set (i := 3) sc_l_pick.nd rfl (by first | exact Or.inl rfl | exact Or.inr rfl) (pe_op op_mod (pe_callTy call_intI (by rfl) T.b_int boot_int (pa_cons (pe_ix ix_list (pv 0) pe_int (fun _ _ => rfl)) pa_nil)) (pv 1)))
  (pss_cons (ps_asg (pe_op op_fdivW (pe_ix ix_list (pv 0) pe_int (fun _ _ => rfl)) (pv 1)) (pg_sub (pv 0) pe_int set_list))
  (pss_one (ps_ret (pv 3))))) pss_nil)
  (pss_cons (ps_if (pt_cmpR op_lt (pe_ix ix_list (pv 0) pe_int (fun _ _ => rfl)) (pe_callB call_lenQ (by rfl) T.b_len boot_len (pa_cons (pe_ix ix_list (pv 0) pe_int (fun _ _ => rfl)) pa_nil)) (nomark _)) (pss_cons (ps_set (i := 2) sc_l_pick.nd rfl (by first | exact Or.inl rfl | exact Or.inr rfl) (pe_ix ix_list (pe_ix ix_list (pv 0) pe_int (fun _ _ => rfl)) (pe_ix ix_list (pv 0) pe_int (fun _ _ => rfl)) (fun _ _ => rfl)))
  (pss_cons (ps_asg (pe_op op_add (pe_ix ix_list (pv 0) pe_int (fun _ _ => rfl)) pe_int) (pg_sub (pv 0) pe_int set_list))
  (pss_cons (ps_set (i := 4) sc_l_pick.nd rfl (by first | exact Or.inl rfl | exact Or.inr rfl) (pe_op op_mod (pe_callTy call_intI (by rfl) T.b_int boot_int (pa_cons (pe_can C_l_mix hr (by decide) rfl (pa_cons (pe_op op_add (pv 2) (pe_op op_mul pe_int (pe_ix ix_list (pv 0) pe_int (fun _ _ => rfl)))) (pa_cons (pe_ix ix_list (pv 0) pe_int (fun _ _ => rfl)) pa_nil))) pa_nil)) (pv 1)))
  (pss_cons (ps_if (pt_cmpR op_eq (pe_ix ix_list (pv 0) pe_int (fun _ _ => rfl)) pe_int (nomark _)) (pss_cons (ps_asg pe_int (pg_sub (pv 0) pe_int set_list))
  (pss_one (ps_asg (pe_op op_add (pe_ix ix_list (pv 0) pe_int (fun _ _ => rfl)) pe_int) (pg_sub (pv 0) pe_int set_list)))) pss_nil)
  (pss_one (ps_ret (pv 4))))))) pss_nil)
  (pss_cons (ps_asg (pe_op op_add (pe_ix ix_list (pv 0) pe_int (fun _ _ => rfl)) pe_int) (pg_sub (pv 0) pe_int set_list))
  (pss_one (ps_ret (pe_op op_mod (pe_callTy call_intI (by rfl) T.b_int boot_int (pa_cons (pe_can C_l_mix hr (by decide) rfl (pa_cons (pe_ix ix_list (pv 0) pe_int (fun _ _ => rfl)) (pa_cons (pe_op op_add (pe_ix ix_list (pv 0) pe_int (fun _ _ => rfl)) pe_int) pa_nil))) pa_nil)) (pv 1))))))))), ?_⟩)
  · obtain ⟨_, _, _, _, rfl, _⟩ := h
    rfl
  · obtain ⟨c, d, m, ns, rfl, hD, hm, q⟩ := h
    obtain ⟨i, n, big, cnt, b0, hd, hi⟩ := hD.ex
    have hc : SqL K H c (ns.map V.int) := Evl.sq_of hD.cells
    have hm9 : m.natAbs.log2 < 9000 ∨ m < 2 := by
      by_cases h2 : m < 2
      · exact .inr h2
      · left
        have h3 : m.natAbs < 2 ^ 200 := by omega
        have := PySem.Flt.log2_lt_of (by decide : 0 < 200) h3
        omega
    walk_at "rd"
    refine r_ite (fun h => ?_) (fun h => ?_)
    · walk_at "rd"
      exact q 0 H (Int.le_refl _) (.inr rfl) (Kp.refl _ _) hD
    walk_at "rd"
    refine r_cut (Mid := fun σ' H' => ∃ x2, σ' = [some (.ref d), some (.int m), x2, none, none] ∧ Kp d H H' ∧ Dr ns c d H') ?_ ?_
    · walk_at "rd"
      have end0 : ∀ x2, ∃ x3, [some (V.ref d), some (V.int m), x2, none, none] = [some (V.ref d), some (V.int m), x3, none, none] ∧ Kp d H H ∧ Dr ns c d H := fun x2 => ⟨x2, rfl, Kp.refl _ _, hD⟩
      refine r_ite (fun h1 => ?_) (fun h1 => ?_)
      · walk_at "rd"
        refine r_ite (fun h2 => ?_) (fun h2 => ?_)
        · obtain ⟨z, hz⟩ := cell_at hi h2
          walk_at "rd"
          refine r_ite (fun h3 => ?_) (fun h3 => ?_)
          · walk_at "rd"
            have big2 : ∃ x3 : Option V, [some (V.ref d), some (V.int m), some (V.int z), none, none] = [some (V.ref d), some (V.int m), x3, none, none] ∧ Kp d H (upd (upd H d (.lst [.ref c, .int i, .int ((if z < 0 then -z else z) % Big), .int cnt, .int n, .int b0])) d (.lst [.ref c, .int (i + 1), .int ((if z < 0 then -z else z) % Big), .int cnt, .int n, .int b0])) ∧ Dr ns c d (upd (upd H d (.lst [.ref c, .int i, .int ((if z < 0 then -z else z) % Big), .int cnt, .int n, .int b0])) d (.lst [.ref c, .int (i + 1), .int ((if z < 0 then -z else z) % Big), .int cnt, .int n, .int b0])) := ⟨_, rfl, kp2, hD.put2 (by omega)⟩
            refine r_ite (fun h4 => ?_) (fun h4 => ?_)
            · walk_at "rd"
              exact big2
            · walk_at "rd"
              refine r_ite (fun h5 => ?_) (fun h5 => ?_)
              · walk_at "rd"
                exact big2
              · walk_at "rd"
                exact end0 _
          · walk_at "rd"
            exact end0 _
        · walk_at "rd"
          exact end0 _
      · walk_at "rd"
        exact end0 _
    · rintro σ' H' ⟨x2, rfl, kp, hD'⟩
      clear hd hi hc
      obtain ⟨i, n, big, cnt, b0, hd, hi⟩ := hD'.ex
      have hc : SqL K H' c (ns.map V.int) := Evl.sq_of hD'.cells
      have hm0 : 0 < m := by omega
      have dv : CDivW big m := ⟨hm0, by omega⟩
      walk_at "rd"
      refine r_ite (fun h1 => ?_) (fun h1 => ?_)
      · walk_at "rd"
        exact q _ _ (Int.emod_nonneg _ (by omega)) (.inl (Int.emod_lt_of_pos _ hm0)) (kp.trans Kp.upd) (hD'.put hi)
      · walk_at "rd"
        refine r_ite (fun h2 => ?_) (fun h2 => ?_)
        · obtain ⟨z, hz⟩ := cell_at hi h2
          walk_at "rd"
          refine ⟨_, _, rfl, fun k => ?_⟩
          walk_at "rd"
          refine r_ite (fun h3 => ?_) (fun h3 => ?_)
          · walk_at "rd"
            exact q _ _ (Int.emod_nonneg _ (by omega)) (.inl (Int.emod_lt_of_pos _ hm0)) (kp.trans kp3) (hD'.put3 (by omega))
          · walk_at "rd"
            exact q _ _ (Int.emod_nonneg _ (by omega)) (.inl (Int.emod_lt_of_pos _ hm0)) (kp.trans Kp.upd) (hD'.put hi)
        · walk_at "rd"
          refine ⟨_, _, rfl, fun k => ?_⟩
          walk_at "rd"
          exact q _ _ (Int.emod_nonneg _ (by omega)) (.inl (Int.emod_lt_of_pos _ hm0)) (kp.trans Kp.upd) (hD'.put hi)
end
end Fk

set_option Elab.async false
set_option linter.all false
set_option maxRecDepth 100000
set_option maxHeartbeats 4000000
namespace Fk
open PySem PySem.Spec PyProof.Rows L2 Fg Fm
local macro_rules | `(tactic| walk_at "rd1") => `(tactic| first
  | with_reducible refine r_seq ?_
  | with_reducible refine r_asg ?_
  | with_reducible refine r_gname ?_
  | with_reducible refine r_gsub ?_
  | with_reducible refine r_ret ?_
  | with_reducible refine r_retN ?_
  | with_reducible refine r_next ?_
  | with_reducible refine r_drop ?_
  | with_reducible refine r_ifS ?_
  | with_reducible refine r_if ?_
  | with_reducible refine r_par ?_
  | with_reducible refine r_pair ?_
  | with_reducible refine r_test ?_
  | with_reducible refine r_tB ?_
  | with_reducible refine r_not ?_
  | with_reducible refine r_and ?_
  | with_reducible refine r_or ?_
  | with_reducible refine r_andV ?_
  | with_reducible refine r_orV ?_
  | with_reducible refine r_notV ?_
  | with_reducible refine r_nil ?_
  | with_reducible refine r_cons ?_
  | with_reducible refine r_call ?_
  | with_reducible refine r_callS ?_
  | with_reducible refine r_cb ?_
  | with_reducible refine r_then ?_
  | with_reducible refine r_tup ?_
  | with_reducible refine r_lst ?_
  | with_reducible refine r_sl ?_
  | with_reducible refine r_nopart ?_
  | with_reducible refine r_part ?_
  | with_reducible refine r_lcR1 ?_
  | with_reducible refine r_lcR2 ?_
  | with_reducible refine r_lcL ?_
  | with_reducible refine r_lcT ?_
  | with_reducible refine r_forR1 ?_
  | with_reducible refine r_forR2 ?_
  | with_reducible refine r_forL ?_
  | with_reducible refine r_forT ?_
  | with_reducible refine r_forE ?_
  | with_reducible refine r_strE ?_
  | ((with_reducible refine r_rng1 ?hc ?_); (case hc => omega))
  | ((with_reducible refine r_rng2 ?hc ?_); (case hc => omega))
  | ((with_reducible refine' r_refL ?hc ?_); (case hc => first | assumption | exact Evl.sq_of (by assumption)))
  | ((with_reducible refine' r_refT ?hc ?_); (case hc => first | assumption | exact Evl.st_of (by assumption)))
  | with_reducible refine r_op ?_
  | with_reducible refine r_un ?_
  | with_reducible refine r_chain ?_
  | ((with_reducible refine' r_var ?hv ?_); (case hv => exact rfl))
  | with_reducible refine r_cs ?_
  | with_reducible refine r_c ?_
  | with_reducible refine r_yes ?_
  | with_reducible refine r_bm ?_
  | with_reducible refine r_bl ?_
  | with_reducible refine r_in ?_
  | with_reducible refine r_ty ?_
  | with_reducible refine r_I0 ?_
  | ((with_reducible refine r_I ?hc ?_); (case hc => first | assumption | (show (0 : Int) < _; decide) | exact Or.inr ⟨by decide, by decide⟩ | exact Or.inr ⟨by omega, by omega⟩ | exact Or.inl ⟨by decide, by decide⟩ | exact (show CDivW _ _ from ⟨by decide, by decide +kernel⟩) | exact (show CPowW _ _ from ⟨by decide, by decide +kernel⟩) | (show (0 : Int) < _; omega)))
  | with_reducible refine r_U ?_
  | with_reducible refine r_eqI ?_
  | with_reducible refine r_neI ?_
  | with_reducible refine r_eqS ?_
  | with_reducible refine r_neS ?_
  | with_reducible refine r_eqB ?_
  | with_reducible refine r_neB ?_
  | with_reducible refine r_niS ?_
  | with_reducible refine r_inSS ?_
  | ((with_reducible refine r_slSS ?hc ?_); (case hc => first | exact small (by omega) | exact small (by simp; omega)))
  | ((with_reducible refine r_lenS ?hc ?_); (case hc => first | exact small (by omega) | exact small (by simp; omega)))
  | ((with_reducible refine' r_lenL ?hc ?_); (case hc => first | assumption | exact Evl.sq_of (by assumption)))
  | ((with_reducible refine' r_lenT ?hc ?_); (case hc => first | assumption | exact Evl.st_of (by assumption)))
  | ((with_reducible refine' r_ixL ?h1 ?h2 ?h3 ?_); (case h1 => first | assumption | exact Evl.sq_of (by assumption) | exact Evl.sq_of upd_same); (case h2 => first | decide | omega); (case h3 => first | exact rfl | assumption))
  | ((with_reducible refine' r_ixT ?h1 ?h2 ?h3 ?_); (case h1 => first | assumption | exact Evl.st_of (by assumption)); (case h2 => first | decide | omega); (case h3 => first | exact rfl | assumption))
  | with_reducible refine r_T ?_
  | ((with_reducible refine' r_isi ?ht ?hk ?_); (case ht => first | exact .base (.int _) | exact .base (.bl _) | exact .base (.str _) | exact .base .non | exact .base (.lst (by assumption)) | exact .base (.tup (by assumption))); (case hk => decide +kernel))
  | with_reducible refine r_F ?_
  | ((with_reducible refine' r_sum ?hc ?_); (case hc => first | assumption | exact Evl.sq_of (by assumption)))
  | ((with_reducible refine' r_setL ?h1 ?h2 ?h3 ?_); (case h1 => first | assumption | exact upd_same); (case h2 => first | decide | omega); (case h3 => first | (show _ < _; decide) | (simp; done)))
  | with_reducible refine r_int ?_
  | with_reducible refine r_abs ?_)
local macro_rules | `(tactic| walk_at "rd") => `(tactic| repeat (walk_at "rd1"))

section
variable {P : Program} {w : World} {K : PySem.W.Frag} {mg : Str → Option Value} {base : Heap}
def Sg (c : Nat) : Prop := c = 46 ∨ c = 103 ∨ c = 114 ∨ c = 119
def AllSg (l : List Nat) : Prop := ∀ c ∈ l, Sg c
def spSign : Sp := fun vs H Q _ => ∃ (c d : Addr) (ns : List Int), vs = [.ref d] ∧ Dr ns c d H ∧ ∀ (x : Nat) H', Sg x → Kp d H H' → Dr ns c d H' → Q (.str (S [x])) H'
abbrev s_l_sign : Stmt := topS 25
abbrev N_l_sign : List Str := ["_law_draw_here"]
theorem sc_l_sign : FnScope ["_law_draw_here"] ["_law_draw_here"] (defScope s_l_sign) := ⟨rfl, rfl, rfl, by decide +kernel, rfl, by decide +kernel, by decide +kernel⟩
theorem can_l_sign (T : Bi mg) (F : Defd K mg "_law_sign" s_l_sign ["_law_draw_here"]) (C_l_pick : Can P w K mg base L2.CX0 2 "_law_pick" ["_law_draw_here", "_law_many"] spPick) : Can P w K mg base L2.CX0 3 "_law_sign" ["_law_draw_here"] spSign := by
  refine can0 F sc_l_sign (fun vs H Q E h => ?_) (fun f cdv A outer s H vs Q E hr h => ⟨_, (pss_one (ps_ret (pe_ix ix_strS (pe_strL [46, 46, 46, 119, 119, 114, 103] (by decide +kernel)) (pe_can C_l_pick hr (by decide) rfl (pa_cons (pv 0) (pa_cons pe_int pa_nil))) (fun _ _ => rfl)))), ?_⟩)
  · obtain ⟨_, _, _, rfl, _⟩ := h
    rfl
  · obtain ⟨c, d, ns, rfl, hD, q⟩ := h
    walk_at "rd"
    refine ⟨c, d, 7, ns, rfl, hD, by decide, fun k H' h0 h1 kp hD' => ?_⟩
    have key : ∃ x, ([46, 46, 46, 119, 119, 114, 103] : List Nat)[k.toNat]? = some x ∧ Sg x := by
      obtain ⟨j, rfl⟩ : ∃ j : Nat, k = j := ⟨k.toNat, by omega⟩
      rw [Int.toNat_natCast]
      have hj : j < 7 := by omega
      match j, hj with
      | 0, _ => exact ⟨_, rfl, .inl rfl⟩
      | 1, _ => exact ⟨_, rfl, .inl rfl⟩
      | 2, _ => exact ⟨_, rfl, .inl rfl⟩
      | 3, _ => exact ⟨_, rfl, .inr (.inr (.inr rfl))⟩
      | 4, _ => exact ⟨_, rfl, .inr (.inr (.inr rfl))⟩
      | 5, _ => exact ⟨_, rfl, .inr (.inr (.inl rfl))⟩
      | 6, _ => exact ⟨_, rfl, .inr (.inl rfl)⟩
    obtain ⟨x, hx, hs⟩ := key
    exact r_ixSS (small (by decide)) h0 hx (q x H' hs kp hD')
def spRound : Sp := fun vs H Q _ => ∃ (c d : Addr) (m : Int) (ns : List Int), vs = [.ref d, .int m] ∧ Dr ns c d H ∧ 1 ≤ m ∧ m ≤ 1000 ∧ ∀ (l : List Nat) H', AllSg l → 1 ≤ l.length → l.length ≤ m.toNat → Kp d H H' → Dr ns c d H' → Q (.str (S l)) H'
theorem Dr.mut {ns : List Int} {c d D : Addr} {H : Hp} {o : HO} (h : Dr ns c d H) (nc : D ≠ c) (nd : D ≠ d) : Dr ns c d (upd H D o) := ⟨h.ne, by rw [upd_ne (Ne.symm nc)]; exact h.cells, by
  obtain ⟨i, n, big, cnt, b, e, r⟩ := h.ex
  exact ⟨i, n, big, cnt, b, by rw [upd_ne (Ne.symm nd)]; exact e, r⟩⟩
theorem Dr.nc {ns : List Int} {c d D : Addr} {H : Hp} (h : Dr ns c d H) (n : H D = none) : D ≠ c := fun z => by
  rw [z, h.cells] at n
  cases n
theorem Dr.nd {ns : List Int} {c d D : Addr} {H : Hp} (h : Dr ns c d H) (n : H D = none) : D ≠ d := fun z => by
  obtain ⟨i, m, big, cnt, b, e, r⟩ := h.ex
  rw [z, e] at n
  cases n
theorem Dr.some {ns : List Int} {c d : Addr} {H : Hp} (h : Dr ns c d H) : H d ≠ none := fun z => by
  obtain ⟨i, m, big, cnt, b, e, r⟩ := h.ex
  rw [e] at z
  cases z
abbrev s_l_round : Stmt := topS 26
abbrev N_l_round : List Str := ["_law_draw_here", "_law_most", "_law_turn"]
theorem sc_l_round : FnScope ["_law_draw_here", "_law_most", "_law_turn"] ["_law_draw_here", "_law_most"] (defScope s_l_round) := ⟨rfl, rfl, rfl, by decide +kernel, rfl, by decide +kernel, by decide +kernel⟩
theorem can_l_round (T : Bi mg) (F : Defd K mg "_law_round" s_l_round ["_law_draw_here", "_law_most"]) (C_l_pick : Can P w K mg base L2.CX0 2 "_law_pick" ["_law_draw_here", "_law_many"] spPick) (C_l_sign : Can P w K mg base L2.CX0 3 "_law_sign" ["_law_draw_here"] spSign) : Can P w K mg base L2.CX0 4 "_law_round" ["_law_draw_here", "_law_most"] spRound := by
  refine can0 F sc_l_round (fun vs H Q E h => ?_) (fun f cdv A outer s H vs Q E hr h => ⟨_, (pss_one (ps_ret (pe_bm PySem.F.plainAttrs_str PySem.F.slot_str_join PySem.F.type_str_join mt_joinS (pe_strL [] (by decide +kernel)) (pa_cons (pe_lc (own := [("_law_turn", 2)]) (g := gName 2) (tt := tYes) rfl sc_l_round.nd (pi_range1 rfl T.b_range (pa_cons (pe_op op_add pe_int (pe_can C_l_pick hr (by decide) rfl (pa_cons (pv 0) (pa_cons (pv 1) pa_nil)))) pa_nil)) (blkOk_by (N := N_l_round) (sc := defScope s_l_round) (by decide +kernel)) (fun _ _ _ _ _ => pg_name (i := 2) sc_l_round.nd rfl (Or.inl rfl)) (fun _ _ _ _ _ => pts_nil) (fun _ _ _ _ _ => (pe_can C_l_sign hr (by decide) rfl (pa_cons (pv 0) pa_nil)))) pa_nil)))), ?_⟩)
  · obtain ⟨_, _, _, _, rfl, _⟩ := h
    rfl
  · obtain ⟨c, d, m, ns, rfl, hD, hm1, hm2, q⟩ := h
    walk_at "rd"
    refine ⟨c, d, m, ns, rfl, hD, by omega, fun k H1 h0 h1 kp hD1 => ?_⟩
    walk_at "rd"
    refine lcR (fun D i acc H2 => D ≠ c ∧ D ≠ d ∧ Kp d H1 H2 ∧ Dr ns c d H2 ∧ ∃ l, acc = l.map (fun x => V.str (S [x])) ∧ AllSg l ∧ l.length = i) (fun _ => rfl) (fun D hD0 => ⟨hD1.nc hD0, hD1.nd hD0, Kp.new hD0, hD1.mut (hD1.nc hD0) (hD1.nd hD0), [], rfl, (fun _ h => by cases h), rfl⟩)
      (fun D i H2 acc hD0 hi e2 _ hJ => ?_) (fun D H2 acc hD0 e2 hJ => ?_)
    · obtain ⟨nc, nd, k2, hD2, l, rfl, hs, hl⟩ := hJ
      walk_at "rd"
      refine ⟨c, d, ns, rfl, hD2, fun x H3 hx k3 hD3 => ?_⟩
      walk_at "rd"
      refine lc_end (by omega) (by rw [List.length_map]; omega) (k3 _ _ nd e2) ⟨nc, nd, (k2.trans k3).mut hD0, hD3.mut nc nd, l ++ [x], by rw [List.map_append]; rfl, fun y hy => ?_, by rw [List.length_append, hl]; rfl⟩
      rcases List.mem_append.mp hy with hy | hy
      · exact hs y hy
      · rw [List.mem_singleton.mp hy]; exact hx
    · obtain ⟨nc, nd, k2, hD2, l, rfl, hs, hl⟩ := hJ
      walk_at "rd"
      exact r_joinC (Evl.sq_of e2) (by omega) (q l H2 hs (by omega) (by omega) (kp.trans k2) hD2)
theorem at_int {l : List Nat} (h : l ≠ []) (i : Nat) {n : Int} (hn : 0 ≤ n) : l[(((0 : Int) + (i : Int) + n) % (l.length : Int)).toNat]? = some (at' l (i + n.toNat)) := by
  have h1 : 0 < l.length := List.length_pos_iff.mpr h
  have e : (0 : Int) + (i : Int) + n = ((i + n.toNat : Nat) : Int) := by omega
  have e2 : (((i + n.toNat : Nat) : Int) % (l.length : Int)) = (((i + n.toNat) % l.length : Nat) : Int) := by omega
  rw [e, e2, Int.toNat_natCast]
  have h2 := Nat.mod_lt (i + n.toNat) h1
  unfold at'
  rw [List.getD_eq_getElem?_getD, List.getElem?_eq_getElem h2]
  rfl
theorem at_int0 {l : List Nat} (h : l ≠ []) (i : Nat) : l[(((0 : Int) + (i : Int)) % (l.length : Int)).toNat]? = some (at' l i) := by
  have := at_int h i (Int.le_refl 0)
  rw [Int.add_zero] at this
  exact this
theorem pos_len {l : List Nat} (h : l ≠ []) : 1 ≤ l.length := List.length_pos_iff.mpr h
theorem range_map {α : Type} (f : Nat → α) (i : Nat) : (List.range (i + 1)).map f = (List.range i).map f ++ [f i] := by
  rw [List.range_succ, List.map_append]; rfl
def spLater : Sp := fun vs H Q _ => ∃ (l : List Nat) (n : Int), vs = [.str (S l), .int n] ∧ l ≠ [] ∧ l.length ≤ 100 ∧ 0 ≤ n ∧ ∀ H', Ex H H' → Q (.str (S (rot l n.toNat))) H'
abbrev s_l_later : Stmt := topS 30
abbrev N_l_later : List Str := ["_law_row", "_law_many", "_law_spot"]
theorem sc_l_later : FnScope ["_law_row", "_law_many", "_law_spot"] ["_law_row", "_law_many"] (defScope s_l_later) := ⟨rfl, rfl, rfl, by decide +kernel, rfl, by decide +kernel, by decide +kernel⟩
theorem can_l_later (T : Bi mg) (F : Defd K mg "_law_later" s_l_later ["_law_row", "_law_many"]) : Can P w K mg base L2.CX0 1 "_law_later" ["_law_row", "_law_many"] spLater := by
  refine can0 F sc_l_later (fun vs H Q E h => ?_) (fun f cdv A outer s H vs Q E hr h => ⟨_, (pss_one (ps_ret (pe_bm PySem.F.plainAttrs_str PySem.F.slot_str_join PySem.F.type_str_join mt_joinS (pe_strL [] (by decide +kernel)) (pa_cons (pe_lc (own := [("_law_spot", 2)]) (g := gName 2) (tt := tYes) rfl sc_l_later.nd (pi_range1 rfl T.b_range (pa_cons (pe_callB call_lenS (by rfl) T.b_len boot_len (pa_cons (pv 0) pa_nil)) pa_nil)) (blkOk_by (N := N_l_later) (sc := defScope s_l_later) (by decide +kernel)) (fun _ _ _ _ _ => pg_name (i := 2) sc_l_later.nd rfl (Or.inl rfl)) (fun _ _ _ _ _ => pts_nil) (fun _ _ _ _ _ => (pe_ix ix_strS (pv 0) (pe_op op_mod (pe_callTy call_intI (by rfl) T.b_int boot_int (pa_cons (pe_op op_add (pv 2) (pv 1)) pa_nil)) (pe_callB call_lenS (by rfl) T.b_len boot_len (pa_cons (pv 0) pa_nil))) (fun _ _ => rfl)))) pa_nil)))), ?_⟩)
  · obtain ⟨_, _, rfl, _⟩ := h
    rfl
  · obtain ⟨l, n, rfl, hne, hl, hn, q⟩ := h
    have h1 := pos_len hne
    have h2 : (0 : Int) < (l.length : Int) := by omega
    walk_at "rd"
    refine lcR (fun D i acc H2 => Ex H H2 ∧ acc = (List.range i).map fun i => V.str (S [at' l (i + n.toNat)])) (fun _ => rfl) (fun D hD => ⟨Evl.Ex.new hD, rfl⟩)
      (fun D i H2 acc hD hi e2 hl2 hJ => ?_) (fun D H2 acc hD e2 hJ => ?_)
    · obtain ⟨ex, rfl⟩ := hJ
      walk_at "rd"
      refine r_ixSS (small (by omega)) (Int.emod_nonneg _ (by omega)) (at_int hne i hn) ?_
      exact lc_end (by omega) hl2 e2 ⟨ex.mut hD, (range_map _ i).symm⟩
    · obtain ⟨ex, rfl⟩ := hJ
      walk_at "rd"
      have e3 : (List.range ((l.length : Int)).toNat).map (fun i => V.str (S [at' l (i + n.toNat)])) = (rot l n.toNat).map fun c => V.str (S [c]) := by
        unfold rot
        rw [List.map_map, Int.toNat_natCast]
        rfl
      rw [e3] at e2
      exact r_joinC (Evl.sq_of e2) (by rw [rot_len]; omega) (q H2 ex)
def spSame : Sp := fun vs H Q _ => ∃ (a b : List Nat), vs = [.str (S a), .str (S b)] ∧ a ≠ [] ∧ b ≠ [] ∧ a.length ≤ 100 ∧ b.length ≤ 100 ∧ Q (.bl (SameB a b)) H
abbrev s_l_same_for_ever : Stmt := topS 28
abbrev N_l_same_for_ever : List Str := ["_law_first", "_law_second", "_law_spot"]
theorem sc_l_same_for_ever : FnScope ["_law_first", "_law_second", "_law_spot"] ["_law_first", "_law_second"] (defScope s_l_same_for_ever) := ⟨rfl, rfl, rfl, by decide +kernel, rfl, by decide +kernel, by decide +kernel⟩
theorem can_l_same_for_ever (T : Bi mg) (F : Defd K mg "_law_same_for_ever" s_l_same_for_ever ["_law_first", "_law_second"]) : Can P w K mg base L2.CX0 1 "_law_same_for_ever" ["_law_first", "_law_second"] spSame := by
  refine can0 F sc_l_same_for_ever (fun vs H Q E h => ?_) (fun f cdv A outer s H vs Q E hr h => ⟨_, (pss_cons (ps_for PassesOwn.never rfl (pi_range1 rfl T.b_range (pa_cons (pe_op op_add (pe_op op_mul (pe_callB call_lenS (by rfl) T.b_len boot_len (pa_cons (pv 0) pa_nil)) (pe_callB call_lenS (by rfl) T.b_len boot_len (pa_cons (pv 1) pa_nil))) pe_int) pa_nil)) (pg_name (i := 2) sc_l_same_for_ever.nd rfl (by first | exact Or.inl rfl | exact Or.inr rfl))
    (pss_one (ps_if (pt_cmpR op_ne (pe_ix ix_strS (pv 0) (pe_op op_mod (pe_callTy call_intI (by rfl) T.b_int boot_int (pa_cons (pv 2) pa_nil)) (pe_callB call_lenS (by rfl) T.b_len boot_len (pa_cons (pv 0) pa_nil))) (fun _ _ => rfl)) (pe_ix ix_strS (pv 1) (pe_op op_mod (pe_callTy call_intI (by rfl) T.b_int boot_int (pa_cons (pv 2) pa_nil)) (pe_callB call_lenS (by rfl) T.b_len boot_len (pa_cons (pv 1) pa_nil))) (fun _ _ => rfl)) (nomark _)) (pss_one (ps_ret pe_bl)) pss_nil)))
  (pss_one (ps_ret pe_bl))), ?_⟩)
  · obtain ⟨_, _, rfl, _⟩ := h
    rfl
  · obtain ⟨a, b, rfl, ha, hb, la, lb, q⟩ := h
    have h1 := pos_len ha
    have h2 := pos_len hb
    have h3 : (0 : Int) < (a.length : Int) := by omega
    have h4 : (0 : Int) < (b.length : Int) := by omega
    have h5 : a.length * b.length ≤ 10000 := Nat.mul_le_mul la lb
    have h6 : ((a.length : Int) * (b.length : Int)) = ((a.length * b.length : Nat) : Int) := by rw [Int.natCast_mul]
    have hc : CMul (a.length : Int) (b.length : Int) := .inl ⟨by omega, by omega⟩
    walk_at "rd"
    refine forR (fun i σ' H' => ∃ x, σ' = [some (.str (S a)), some (.str (S b)), x] ∧ H' = H ∧ ∀ t, t < i → at' a t = at' b t) ⟨none, rfl, rfl, fun t h => by omega⟩ (fun i σ' H' hi hJ => ?_) (fun σ' H' hJ => ?_)
    · obtain ⟨x, rfl, rfl, hJ⟩ := hJ
      walk_at "rd"
      refine r_ixSS (small (by omega)) (Int.emod_nonneg _ (by omega)) (at_int0 ha i) ?_
      walk_at "rd"
      refine r_ixSS (small (by omega)) (Int.emod_nonneg _ (by omega)) (at_int0 hb i) ?_
      walk_at "rd"
      refine r_iteN (fun h => ?_) (fun h => ?_)
      · walk_at "rd"
        have e : SameB a b = false := sameB_false.mpr fun s => h (by rw [s i])
        rw [e] at q
        exact q
      · walk_at "rd"
        refine ⟨_, rfl, rfl, fun t ht => ?_⟩
        by_cases e : t = i
        · rw [e]
          injection h
        · exact hJ t (by omega)
    · obtain ⟨x, rfl, rfl, hJ⟩ := hJ
      walk_at "rd"
      have e : SameB a b = true := sameB.mpr (same_upto ha hb fun t ht => hJ t (by omega))
      rw [e] at q
      exact q
def spLeast : Sp := fun vs H Q _ => ∃ (l : List Nat), vs = [.str (S l)] ∧ l ≠ [] ∧ l.length ≤ 100 ∧ Q (.str (S (lst l))) H
theorem take_ne {l : List Nat} {k : Nat} (h : l ≠ []) (hk : 1 ≤ k) : l.take k ≠ [] := by
  intro e
  have h2 := congrArg List.length e
  rw [List.length_take, List.length_nil] at h2
  have := pos_len h
  omega
abbrev s_l_least : Stmt := topS 29
abbrev N_l_least : List Str := ["_law_row", "_law_many"]
theorem sc_l_least : FnScope ["_law_row", "_law_many"] ["_law_row"] (defScope s_l_least) := ⟨rfl, rfl, rfl, by decide +kernel, rfl, by decide +kernel, by decide +kernel⟩
theorem can_l_least (T : Bi mg) (F : Defd K mg "_law_least" s_l_least ["_law_row"]) (C_l_same_for_ever : Can P w K mg base L2.CX0 1 "_law_same_for_ever" ["_law_first", "_law_second"] spSame) : Can P w K mg base L2.CX0 2 "_law_least" ["_law_row"] spLeast := by
  refine can0 F sc_l_least (fun vs H Q E h => ?_) (fun f cdv A outer s H vs Q E hr h => ⟨_, (pss_cons (ps_for PassesOwn.never rfl (pi_range2 rfl T.b_range (pa_cons pe_int (pa_cons (pe_op op_add (pe_callB call_lenS (by rfl) T.b_len boot_len (pa_cons (pv 0) pa_nil)) pe_int) pa_nil))) (pg_name (i := 1) sc_l_least.nd rfl (by first | exact Or.inl rfl | exact Or.inr rfl))
    (pss_one (ps_if (pt_val (pe_can C_l_same_for_ever hr (by decide) rfl (pa_cons (pe_slice sl_strS (pv 0) po_none (po_some (pv 1))) (pa_cons (pv 0) pa_nil)))) (pss_one (ps_ret (pe_slice sl_strS (pv 0) po_none (po_some (pv 1))))) pss_nil)))
  (pss_one (ps_ret (pv 0)))), ?_⟩)
  · obtain ⟨_, rfl, _⟩ := h
    rfl
  · obtain ⟨l, rfl, hne, hl, q⟩ := h
    have h1 := pos_len hne
    walk_at "rd"
    refine forR (fun i σ' H' => ∃ x, σ' = [some (.str (S l)), x] ∧ H' = H ∧ ∀ j, 1 ≤ j → j ≤ i → ¬ Same (l.take j) l) ⟨none, rfl, rfl, fun t h => by omega⟩ (fun i σ' H' hi hJ => ?_) (fun σ' H' hJ => ?_)
    · obtain ⟨x, rfl, rfl, hJ⟩ := hJ
      have hi2 : i < l.length := by omega
      have e1 : ((1 : Int) + (i : Int)).toNat = i + 1 := by omega
      walk_at "rd"
      rw [cut_to (by omega), e1]
      refine ⟨l.take (i + 1), l, rfl, take_ne hne (by omega), hne, by rw [List.length_take]; omega, hl, ?_⟩
      walk_at "rd"
      refine r_iteB (fun h => ?_) (fun h => ?_)
      · walk_at "rd"
        rw [cut_to (by omega), e1]
        have e : i + 1 = per l := per_uniq hne (by omega) (by omega) (sameB.mp h) fun j h1 h2 => hJ j h1 (by omega)
        unfold lst at q
        rw [← e] at q
        exact q
      · walk_at "rd"
        refine ⟨_, rfl, rfl, fun j h1 h2 => ?_⟩
        by_cases e : j = i + 1
        · rw [e]; exact sameB_false.mp h
        · exact hJ j h1 (by omega)
    · obtain ⟨x, rfl, rfl, hJ⟩ := hJ
      exact absurd (by rw [List.take_length]; exact fun _ => rfl) (hJ l.length h1 (by omega))
def rots (m : List Nat) : List (List Nat) := (List.range m.length).map (rot m)
theorem rots_ne {m : List Nat} (h : m ≠ []) : rots m ≠ [] := by
  intro e
  have h2 := congrArg List.length e
  unfold rots at h2
  rw [List.length_map, List.length_range, List.length_nil] at h2
  have := pos_len h
  omega
def spLRhythm : Sp := fun vs H Q _ => ∃ (l : List Nat), vs = [.str (S l)] ∧ l ≠ [] ∧ l.length ≤ 24 ∧ ∀ z H', z ∈ rots (lst l) → (∀ y ∈ rots (lst l), ¬ y < z) → Ex H H' → Q (.str (S z)) H'
abbrev s_l_rhythm : Stmt := topS 31
abbrev N_l_rhythm : List Str := ["_law_row", "_law_least_here", "_law_many"]
theorem sc_l_rhythm : FnScope ["_law_row", "_law_least_here", "_law_many"] ["_law_row"] (defScope s_l_rhythm) := ⟨rfl, rfl, rfl, by decide +kernel, rfl, by decide +kernel, by decide +kernel⟩
theorem can_l_rhythm (T : Bi mg) (F : Defd K mg "_law_rhythm" s_l_rhythm ["_law_row"]) (C_l_least : Can P w K mg base L2.CX0 2 "_law_least" ["_law_row"] spLeast) (C_l_later : Can P w K mg base L2.CX0 1 "_law_later" ["_law_row", "_law_many"] spLater) : Can P w K mg base L2.CX0 3 "_law_rhythm" ["_law_row"] spLRhythm := by
  refine can0 F sc_l_rhythm (fun vs H Q E h => ?_) (fun f cdv A outer s H vs Q E hr h => ⟨_, (pss_cons (ps_set (i := 1) sc_l_rhythm.nd rfl (by first | exact Or.inl rfl | exact Or.inr rfl) (pe_can C_l_least hr (by decide) rfl (pa_cons (pv 0) pa_nil)))
  (pss_one (ps_ret (pe_ix ix_list (pe_callB cr_sortedS (by rfl) T.b_sorted boot_sorted (pa_cons (pe_lc (own := [("_law_many", 2)]) (g := gName 2) (tt := tYes) rfl sc_l_rhythm.nd (pi_range1 rfl T.b_range (pa_cons (pe_callB call_lenS (by rfl) T.b_len boot_len (pa_cons (pv 1) pa_nil)) pa_nil)) (blkOk_by (N := N_l_rhythm) (sc := defScope s_l_rhythm) (by decide +kernel)) (fun _ _ _ _ _ => pg_name (i := 2) sc_l_rhythm.nd rfl (Or.inl rfl)) (fun _ _ _ _ _ => pts_nil) (fun _ _ _ _ _ => (pe_can C_l_later hr (by decide) rfl (pa_cons (pv 1) (pa_cons (pv 2) pa_nil))))) pa_nil)) pe_int (fun _ _ => rfl))))), ?_⟩)
  · obtain ⟨_, rfl, _⟩ := h
    rfl
  · obtain ⟨l, rfl, hne, hl, q⟩ := h
    have h1 := pos_len hne
    have p := per_spec hne
    have hm := lst_ne hne
    have lm : (lst l).length ≤ 24 := by rw [lst_len hne]; omega
    have h9 : (0 : Int) ≤ ((lst l).length : Int) := by omega
    walk_at "rd"
    refine ⟨l, rfl, hne, by omega, ?_⟩
    walk_at "rd"
    refine lcR (fun D i acc H2 => Ex H H2 ∧ acc = (List.range i).map fun i => V.str (S (rot (lst l) i))) (fun _ => rfl) (fun D hD => ⟨Evl.Ex.new hD, rfl⟩)
      (fun D i H2 acc hD hi e2 hl2 hJ => ?_) (fun D H2 acc hD e2 hJ => ?_)
    · obtain ⟨ex, rfl⟩ := hJ
      walk_at "rd"
      refine ⟨lst l, _, rfl, hm, by omega, by omega, fun H3 ex3 => ?_⟩
      have e1 : ((0 : Int) + (i : Int)).toNat = i := by omega
      rw [e1]
      exact lc_end (by omega) hl2 (ex3 _ _ e2) ⟨(ex.trans ex3).mut hD, (range_map _ i).symm⟩
    · obtain ⟨ex, rfl⟩ := hJ
      have e3 : (List.range ((lst l).length : Int).toNat).map (fun i => V.str (S (rot (lst l) i))) = (rots (lst l)).map fun l => V.str (S l) := by
        unfold rots
        rw [List.map_map, Int.toNat_natCast]
        rfl
      rw [e3] at e2
      walk_at "rd"
      refine r_sortedS (Evl.sq_of e2) (by unfold rots; rw [List.length_map, List.length_range]; omega) (rots_ne hm) fun z zs d2 hz hle hd2 => ?_
      walk_at "rd"
      exact q z _ hz hle (ex.trans (Evl.Ex.new hd2))
noncomputable def moms (a b : List Nat) : List Nat := (List.range (per b)).filter fun n => SameB (rot b n) a
def spLMoments : Sp := fun vs H Q _ => ∃ (a b : List Nat), vs = [.str (S a), .str (S b)] ∧ a ≠ [] ∧ b ≠ [] ∧ a.length ≤ 24 ∧ b.length ≤ 24 ∧ ∀ p H', Ex H H' → H' p = some (.tup ((moms a b).map fun (n : Nat) => V.int (n : Int))) → Q (.ref p) H'
theorem filt_yes {f : Nat → Bool} {i : Nat} (h : f i = true) : ((List.range (i + 1)).filter f) = ((List.range i).filter f) ++ [i] := by
  rw [List.range_succ, List.filter_append, List.filter_cons, if_pos h]; rfl
theorem filt_no {f : Nat → Bool} {i : Nat} (h : f i = false) : ((List.range (i + 1)).filter f) = ((List.range i).filter f) := by
  rw [List.range_succ, List.filter_append, List.filter_cons, if_neg (by rw [h]; decide)]
  show _ ++ [] = _
  rw [List.append_nil]
abbrev s_l_moments : Stmt := topS 32
abbrev N_l_moments : List Str := ["_law_first", "_law_second", "_law_many", "_law_number_here"]
theorem sc_l_moments : FnScope ["_law_first", "_law_second", "_law_many", "_law_number_here"] ["_law_first", "_law_second"] (defScope s_l_moments) := ⟨rfl, rfl, rfl, by decide +kernel, rfl, by decide +kernel, by decide +kernel⟩
theorem can_l_moments (T : Bi mg) (F : Defd K mg "_law_moments" s_l_moments ["_law_first", "_law_second"]) (C_l_least : Can P w K mg base L2.CX0 2 "_law_least" ["_law_row"] spLeast) (C_l_later : Can P w K mg base L2.CX0 1 "_law_later" ["_law_row", "_law_many"] spLater) (C_l_same_for_ever : Can P w K mg base L2.CX0 1 "_law_same_for_ever" ["_law_first", "_law_second"] spSame) : Can P w K mg base L2.CX0 3 "_law_moments" ["_law_first", "_law_second"] spLMoments := by
  refine can0 F sc_l_moments (fun vs H Q E h => ?_) (fun f cdv A outer s H vs Q E hr h => ⟨_, (pss_cons (ps_set (i := 2) sc_l_moments.nd rfl (by first | exact Or.inl rfl | exact Or.inr rfl) (pe_callB call_lenS (by rfl) T.b_len boot_len (pa_cons (pe_can C_l_least hr (by decide) rfl (pa_cons (pv 1) pa_nil)) pa_nil)))
  (pss_one (ps_ret (pe_tupleOf (by rfl) T.b_tuple (pe_lc (own := [("_law_number_here", 3)]) (g := gName 3) rfl sc_l_moments.nd (pi_range1 rfl T.b_range (pa_cons (pv 2) pa_nil)) (blkOk_by (N := N_l_moments) (sc := defScope s_l_moments) (by decide +kernel)) (fun _ _ _ _ _ => pg_name (i := 3) sc_l_moments.nd rfl (Or.inl rfl)) (fun _ _ _ _ _ => (pts_one (pt_val (pe_can C_l_same_for_ever hr (by decide) rfl (pa_cons (pe_can C_l_later hr (by decide) rfl (pa_cons (pv 1) (pa_cons (pv 3) pa_nil))) (pa_cons (pv 0) pa_nil)))))) (fun _ _ _ _ _ => (pv 3))))))), ?_⟩)
  · obtain ⟨_, _, rfl, _⟩ := h
    rfl
  · obtain ⟨a, b, rfl, ha, hb, la, lb, q⟩ := h
    have h1 := pos_len hb
    have p := per_spec hb
    have e0 := lst_len hb
    have h9 : (lst b).length ≤ 24 := by omega
    walk_at "rd"
    refine ⟨b, rfl, hb, by omega, ?_⟩
    walk_at "rd"
    refine lcR (fun D i acc H2 => Ex H H2 ∧ acc = ((List.range i).filter fun n => SameB (rot b n) a).map fun (n : Nat) => V.int (n : Int)) (fun _ => rfl) (fun D hD => ⟨Evl.Ex.new hD, rfl⟩)
      (fun D i H2 acc hD hi e2 hl2 hJ => ?_) (fun D H2 acc hD e2 hJ => ?_)
    · obtain ⟨ex, rfl⟩ := hJ
      walk_at "rd"
      refine ⟨b, _, rfl, hb, by omega, by omega, fun H3 ex3 => ?_⟩
      have e1 : ((0 : Int) + (i : Int)).toNat = i := by omega
      rw [e1]
      walk_at "rd"
      refine ⟨_, a, rfl, rot_ne hb i, ha, by rw [rot_len]; omega, by omega, ?_⟩
      walk_at "rd"
      have e5 : (0 : Int) + (i : Int) = (i : Int) := by omega
      refine r_iteB (fun h => ?_) (fun h => ?_)
      · walk_at "rd"
        rw [e5]
        refine lc_end (by omega) hl2 (ex3 _ _ e2) ⟨(ex.trans ex3).mut hD, ?_⟩
        rw [filt_yes (f := fun n => SameB (rot b n) a) h, List.map_append]
        rfl
      · refine lc_skip hl2 (ex3 _ _ e2) ⟨ex.trans ex3, ?_⟩
        rw [filt_no (f := fun n => SameB (rot b n) a) h]
    · obtain ⟨ex, rfl⟩ := hJ
      walk_at "rd"
      refine r_tupL (Evl.sq_of e2) fun t ht => ?_
      refine q t _ (ex.trans (Evl.Ex.new ht)) ?_
      rw [upd_same, Int.toNat_natCast, e0]
      rfl
end
end Fk

set_option Elab.async false
set_option linter.all false
set_option maxRecDepth 100000
set_option maxHeartbeats 4000000
namespace Fk
open PySem PySem.Spec PyProof.Rows L2 Fg Fm
local macro_rules | `(tactic| walk_at "rd1") => `(tactic| first
  | with_reducible refine r_seq ?_
  | with_reducible refine r_asg ?_
  | with_reducible refine r_gname ?_
  | with_reducible refine r_gsub ?_
  | with_reducible refine r_ret ?_
  | with_reducible refine r_retN ?_
  | with_reducible refine r_next ?_
  | with_reducible refine r_drop ?_
  | with_reducible refine r_ifS ?_
  | with_reducible refine r_if ?_
  | with_reducible refine r_par ?_
  | with_reducible refine r_pair ?_
  | with_reducible refine r_test ?_
  | with_reducible refine r_tB ?_
  | with_reducible refine r_not ?_
  | with_reducible refine r_and ?_
  | with_reducible refine r_or ?_
  | with_reducible refine r_andV ?_
  | with_reducible refine r_orV ?_
  | with_reducible refine r_notV ?_
  | with_reducible refine r_nil ?_
  | with_reducible refine r_cons ?_
  | with_reducible refine r_call ?_
  | with_reducible refine r_callS ?_
  | with_reducible refine r_cb ?_
  | with_reducible refine r_then ?_
  | with_reducible refine r_tup ?_
  | with_reducible refine r_lst ?_
  | with_reducible refine r_sl ?_
  | with_reducible refine r_nopart ?_
  | with_reducible refine r_part ?_
  | with_reducible refine r_lcR1 ?_
  | with_reducible refine r_lcR2 ?_
  | with_reducible refine r_lcL ?_
  | with_reducible refine r_lcT ?_
  | with_reducible refine r_forR1 ?_
  | with_reducible refine r_forR2 ?_
  | with_reducible refine r_forL ?_
  | with_reducible refine r_forT ?_
  | with_reducible refine r_forE ?_
  | with_reducible refine r_strE ?_
  | ((with_reducible refine r_rng1 ?hc ?_); (case hc => omega))
  | ((with_reducible refine r_rng2 ?hc ?_); (case hc => omega))
  | ((with_reducible refine' r_refL ?hc ?_); (case hc => first | assumption | exact Evl.sq_of (by assumption)))
  | ((with_reducible refine' r_refT ?hc ?_); (case hc => first | assumption | exact Evl.st_of (by assumption)))
  | with_reducible refine r_op ?_
  | with_reducible refine r_un ?_
  | with_reducible refine r_chain ?_
  | ((with_reducible refine' r_var ?hv ?_); (case hv => exact rfl))
  | with_reducible refine r_cs ?_
  | with_reducible refine r_c ?_
  | with_reducible refine r_yes ?_
  | with_reducible refine r_bm ?_
  | with_reducible refine r_bl ?_
  | with_reducible refine r_in ?_
  | with_reducible refine r_ty ?_
  | with_reducible refine r_I0 ?_
  | ((with_reducible refine r_I ?hc ?_); (case hc => first | assumption | (show (0 : Int) < _; decide) | exact Or.inr ⟨by decide, by decide⟩ | exact Or.inr ⟨by omega, by omega⟩ | exact Or.inl ⟨by decide, by decide⟩ | exact (show CDivW _ _ from ⟨by decide, by decide +kernel⟩) | exact (show CPowW _ _ from ⟨by decide, by decide +kernel⟩) | (show (0 : Int) < _; omega)))
  | with_reducible refine r_U ?_
  | with_reducible refine r_eqI ?_
  | with_reducible refine r_neI ?_
  | with_reducible refine r_eqS ?_
  | with_reducible refine r_neS ?_
  | with_reducible refine r_eqB ?_
  | with_reducible refine r_neB ?_
  | with_reducible refine r_niS ?_
  | with_reducible refine r_inSS ?_
  | ((with_reducible refine r_slSS ?hc ?_); (case hc => first | exact small (by omega) | exact small (by simp; omega)))
  | ((with_reducible refine r_lenS ?hc ?_); (case hc => first | exact small (by omega) | exact small (by simp; omega)))
  | ((with_reducible refine' r_lenL ?hc ?_); (case hc => first | assumption | exact Evl.sq_of (by assumption)))
  | ((with_reducible refine' r_lenT ?hc ?_); (case hc => first | assumption | exact Evl.st_of (by assumption)))
  | ((with_reducible refine' r_ixL ?h1 ?h2 ?h3 ?_); (case h1 => first | assumption | exact Evl.sq_of (by assumption) | exact Evl.sq_of upd_same); (case h2 => first | decide | omega); (case h3 => first | exact rfl | assumption))
  | ((with_reducible refine' r_ixT ?h1 ?h2 ?h3 ?_); (case h1 => first | assumption | exact Evl.st_of (by assumption)); (case h2 => first | decide | omega); (case h3 => first | exact rfl | assumption))
  | with_reducible refine r_T ?_
  | ((with_reducible refine' r_isi ?ht ?hk ?_); (case ht => first | exact .base (.int _) | exact .base (.bl _) | exact .base (.str _) | exact .base .non | exact .base (.lst (by assumption)) | exact .base (.tup (by assumption))); (case hk => decide +kernel))
  | with_reducible refine r_F ?_
  | ((with_reducible refine' r_sum ?hc ?_); (case hc => first | assumption | exact Evl.sq_of (by assumption)))
  | ((with_reducible refine' r_setL ?h1 ?h2 ?h3 ?_); (case h1 => first | assumption | exact upd_same); (case h2 => first | decide | omega); (case h3 => first | (show _ < _; decide) | (simp; done)))
  | with_reducible refine r_int ?_
  | with_reducible refine r_abs ?_)
local macro_rules | `(tactic| walk_at "rd") => `(tactic| repeat (walk_at "rd1"))

section
variable {P : Program} {w : World} {K : PySem.W.Frag} {mg : Str → Option Value} {base : Heap}
theorem sg_app {a b : List Nat} (h : AllSg a) (k : AllSg b) : AllSg (a ++ b) := fun c hc => (List.mem_append.mp hc).elim (h c) (k c)
theorem sg_take {a : List Nat} (n : Nat) (h : AllSg a) : AllSg (a.take n) := fun c hc => h c (List.mem_of_mem_take hc)
theorem sg_drop {a : List Nat} (n : Nat) (h : AllSg a) : AllSg (a.drop n) := fun c hc => h c (List.mem_of_mem_drop hc)
theorem sg_one {c : Nat} (h : Sg c) : AllSg [c] := fun x hx => by rw [List.mem_singleton.mp hx]; exact h
theorem sg_rot {a : List Nat} (n : Nat) (h : AllSg a) (hn : a ≠ []) : AllSg (rot a n) := fun c hc => by
  unfold rot at hc
  obtain ⟨i, _, rfl⟩ := List.mem_map.mp hc
  have h1 := pos_len hn
  have h2 := Nat.mod_lt (i + n) (show 0 < a.length by omega)
  unfold at'
  rw [List.getD_eq_getElem?_getD, List.getElem?_eq_getElem h2]
  exact h _ (List.getElem_mem h2)
theorem sg_rep {a : List Nat} (n : Nat) (h : AllSg a) : AllSg (List.replicate n a).flatten := fun c hc => by
  obtain ⟨b, hb, hc⟩ := List.mem_flatten.mp hc
  rw [(List.mem_replicate.mp hb).2] at hc
  exact h c hc
def spBent : Sp := fun vs H Q _ => ∃ (c d : Addr) (l : List Nat) (ns : List Int), vs = [.ref d, .str (S l)] ∧ Dr ns c d H ∧ AllSg l ∧ 1 ≤ l.length ∧ l.length ≤ 24 ∧ ∀ (m : List Nat) H', AllSg m → 1 ≤ m.length → m.length ≤ l.length + 1 → Kp d H H' → Dr ns c d H' → Q (.str (S m)) H'
abbrev s_l_bent : Stmt := topS 27
abbrev N_l_bent : List Str := ["_law_draw_here", "_law_row", "_law_place", "_law_kind"]
theorem sc_l_bent : FnScope ["_law_draw_here", "_law_row", "_law_place", "_law_kind"] ["_law_draw_here", "_law_row"] (defScope s_l_bent) := ⟨rfl, rfl, rfl, by decide +kernel, rfl, by decide +kernel, by decide +kernel⟩
theorem can_l_bent (T : Bi mg) (F : Defd K mg "_law_bent" s_l_bent ["_law_draw_here", "_law_row"]) (C_l_pick : Can P w K mg base L2.CX0 2 "_law_pick" ["_law_draw_here", "_law_many"] spPick) (C_l_sign : Can P w K mg base L2.CX0 3 "_law_sign" ["_law_draw_here"] spSign) : Can P w K mg base L2.CX0 4 "_law_bent" ["_law_draw_here", "_law_row"] spBent := by
  refine can0 F sc_l_bent (fun vs H Q E h => ?_) (fun f cdv A outer s H vs Q E hr h => ⟨_, (pss_cons (ps_set (i := 2) sc_l_bent.nd rfl (by first | exact Or.inl rfl | exact Or.inr rfl) (pe_can C_l_pick hr (by decide) rfl (pa_cons (pv 0) (pa_cons (pe_callB call_lenS (by rfl) T.b_len boot_len (pa_cons (pv 1) pa_nil)) pa_nil))))
  (pss_cons (ps_set (i := 3) sc_l_bent.nd rfl (by first | exact Or.inl rfl | exact Or.inr rfl) (pe_can C_l_pick hr (by decide) rfl (pa_cons (pv 0) (pa_cons pe_int pa_nil))))
  (Evl.pss_cut (ps_if (PW.pt (pw_and (pt_cmpR op_eq (pv 3) pe_int (nomark _)) (pw_and1 (pt_cmpR op_gt (pe_callB call_lenS (by rfl) T.b_len boot_len (pa_cons (pv 1) pa_nil)) pe_int (nomark _))))) (pss_one (ps_ret (pe_op op_catS (pe_slice sl_strS (pv 1) po_none (po_some (pv 2))) (pe_slice sl_strS (pv 1) (po_some (pe_op op_add (pv 2) pe_int)) po_none)))) pss_nil)
  (pss_cons (ps_if (pt_cmpR op_eq (pv 3) pe_int (nomark _)) (pss_one (ps_ret (pe_op op_catS (pe_op op_catS (pe_slice sl_strS (pv 1) po_none (po_some (pv 2))) (pe_can C_l_sign hr (by decide) rfl (pa_cons (pv 0) pa_nil))) (pe_slice sl_strS (pv 1) (po_some (pv 2)) po_none)))) pss_nil)
  (pss_one (ps_ret (pe_op op_catS (pe_op op_catS (pe_slice sl_strS (pv 1) po_none (po_some (pv 2))) (pe_can C_l_sign hr (by decide) rfl (pa_cons (pv 0) pa_nil))) (pe_slice sl_strS (pv 1) (po_some (pe_op op_add (pv 2) pe_int)) po_none)))))))), ?_⟩)
  · obtain ⟨_, _, _, _, rfl, _⟩ := h
    rfl
  · obtain ⟨c, d, l, ns, rfl, hD, hs, h1, h2, q⟩ := h
    walk_at "rd"
    refine ⟨c, d, _, ns, rfl, hD, by omega, fun k H1 k0 k1 kp1 hD1 => ?_⟩
    walk_at "rd"
    refine ⟨c, d, _, ns, rfl, hD1, by omega, fun j H2 j0 j1 kp2 hD2 => ?_⟩
    have kp := kp1.trans kp2
    walk_at "rd"
    have last : ∀ x H3, Sg x → Kp d H2 H3 → Dr ns c d H3 → Q (.str (S (l.take k.toNat ++ [x] ++ l.drop (k + 1).toNat))) H3 := fun x H3 hx kp3 hD3 => by
      refine q _ H3 (sg_app (sg_app (sg_take _ hs) (sg_one hx)) (sg_drop _ hs)) ?_ ?_ (kp.trans kp3) hD3
      · rw [List.length_append, List.length_append, List.length_singleton]; omega
      · rw [List.length_append, List.length_append, List.length_singleton, List.length_take, List.length_drop]; omega
    refine r_cut (Mid := fun σ' H' => σ' = [some (.ref d), some (.str (S l)), some (.int k), some (.int j)] ∧ H' = H2) ?_ ?_
    · walk_at "rd"
      refine r_ite (fun h3 => ?_) (fun h3 => ?_)
      · walk_at "rd"
        refine r_ite (fun h4 => ?_) (fun h4 => ?_)
        · walk_at "rd"
          rw [cut_to (by omega), cut_from (by omega)]
          refine r_catS (small (by rw [List.length_take, List.length_drop]; omega)) ?_
          refine q _ H2 (sg_app (sg_take _ hs) (sg_drop _ hs)) ?_ ?_ kp hD2
          · rw [List.length_append, List.length_take, List.length_drop]; omega
          · rw [List.length_append, List.length_take, List.length_drop]; omega
        · walk_at "rd"
          exact ⟨rfl, rfl⟩
      · walk_at "rd"
        exact ⟨rfl, rfl⟩
    rintro σ' H' ⟨rfl, rfl⟩
    walk_at "rd"
    refine r_ite (fun h4 => ?_) (fun h4 => ?_)
    · walk_at "rd"
      refine ⟨c, d, ns, rfl, hD2, fun x H3 hx kp3 hD3 => ?_⟩
      rw [cut_to (by omega)]
      refine r_catS (small (by rw [List.length_take, List.length_singleton]; omega)) ?_
      walk_at "rd"
      rw [cut_from (by omega)]
      refine r_catS (small (by rw [List.length_append, List.length_take, List.length_drop, List.length_singleton]; omega)) ?_
      refine q _ H3 (sg_app (sg_app (sg_take _ hs) (sg_one hx)) (sg_drop _ hs)) ?_ ?_ (kp.trans kp3) hD3
      · rw [List.length_append, List.length_append, List.length_singleton]; omega
      · rw [List.length_append, List.length_append, List.length_singleton, List.length_take, List.length_drop]; omega
    · walk_at "rd"
      refine ⟨c, d, ns, rfl, hD2, fun x H3 hx kp3 hD3 => ?_⟩
      rw [cut_to (by omega)]
      refine r_catS (small (by rw [List.length_take, List.length_singleton]; omega)) ?_
      walk_at "rd"
      rw [cut_from (by omega)]
      refine r_catS (small (by rw [List.length_append, List.length_take, List.length_drop, List.length_singleton]; omega)) ?_
      exact last x H3 hx kp3 hD3
def spNumber : Sp := fun vs H Q _ => ∃ (c d : Addr) (ns : List Int), vs = [.ref d] ∧ Dr ns c d H ∧ ∀ (k : Int) H', 0 ≤ k → Kp d H H' → Dr ns c d H' → Q (.int k) H'
abbrev s_l_number : Stmt := topS 34
abbrev N_l_number : List Str := ["_law_draw_here", "_law_kind"]
theorem sc_l_number : FnScope ["_law_draw_here", "_law_kind"] ["_law_draw_here"] (defScope s_l_number) := ⟨rfl, rfl, rfl, by decide +kernel, rfl, by decide +kernel, by decide +kernel⟩
theorem can_l_number (T : Bi mg) (F : Defd K mg "_law_number" s_l_number ["_law_draw_here"]) (C_l_pick : Can P w K mg base L2.CX0 2 "_law_pick" ["_law_draw_here", "_law_many"] spPick) : Can P w K mg base L2.CX0 3 "_law_number" ["_law_draw_here"] spNumber := by
  refine can0 F sc_l_number (fun vs H Q E h => ?_) (fun f cdv A outer s H vs Q E hr h => ⟨_, (pss_cons (ps_set (i := 1) sc_l_number.nd rfl (by first | exact Or.inl rfl | exact Or.inr rfl) (pe_can C_l_pick hr (by decide) rfl (pa_cons (pv 0) (pa_cons pe_int pa_nil))))
  (pss_cons (ps_if (pt_cmpR op_eq (pv 1) pe_int (nomark _)) (pss_one (ps_ret (pe_can C_l_pick hr (by decide) rfl (pa_cons (pv 0) (pa_cons pe_int pa_nil))))) pss_nil)
  (pss_cons (ps_if (pt_cmpR op_eq (pv 1) pe_int (nomark _)) (pss_one (ps_ret (pe_can C_l_pick hr (by decide) rfl (pa_cons (pv 0) (pa_cons (pe_op op_powW pe_int pe_int) pa_nil))))) pss_nil)
  (pss_one (ps_ret (pe_op op_sub (pe_op op_sub (pe_op op_powW pe_int pe_int) pe_int) (pe_can C_l_pick hr (by decide) rfl (pa_cons (pv 0) (pa_cons (pe_op op_powW pe_int pe_int) pa_nil))))))))), ?_⟩)
  · obtain ⟨_, _, _, rfl, _⟩ := h
    rfl
  · obtain ⟨c, d, ns, rfl, hD, q⟩ := h
    walk_at "rd"
    refine ⟨c, d, _, ns, rfl, hD, by decide, fun k H1 k0 k1 kp1 hD1 => ?_⟩
    walk_at "rd"
    refine r_ite (fun h3 => ?_) (fun h3 => ?_)
    · walk_at "rd"
      exact ⟨c, d, _, ns, rfl, hD1, by decide, fun j H2 j0 j1 kp2 hD2 => q j H2 j0 (kp1.trans kp2) hD2⟩
    · walk_at "rd"
      refine r_ite (fun h3 => ?_) (fun h3 => ?_)
      · walk_at "rd"
        exact ⟨c, d, _, ns, rfl, hD1, by decide, fun j H2 j0 j1 kp2 hD2 => q j H2 j0 (kp1.trans kp2) hD2⟩
      · walk_at "rd"
        refine ⟨c, d, _, ns, rfl, hD1, by decide, fun j H2 j0 j1 kp2 hD2 => ?_⟩
        walk_at "rd"
        refine q _ H2 ?_ (kp1.trans kp2) hD2
        have e1 : ((10 : Int) ^ (39 : Int).toNat) = 1000000000000000000000000000000000000000 := by decide
        have e2 : ((10 : Int) ^ (40 : Int).toNat) = 10000000000000000000000000000000000000000 := by decide
        rw [e1] at j1
        rw [e2]
        omega
structure Rnd (l : List Nat) : Prop where
  sg : AllSg l
  pos : 1 ≤ l.length
  le : l.length ≤ 24
theorem Rnd.ne {l : List Nat} (h : Rnd l) : l ≠ [] := fun e => by
  have := h.pos
  rw [e] at this
  simp at this
def spRounds : Sp := fun vs H Q _ => ∃ (c d : Addr) (ns : List Int), vs = [.ref d] ∧ Dr ns c d H ∧ ∀ (a b : List Nat) p H', Rnd a → Rnd b → Kp d H H' → Dr ns c d H' → p ≠ d → H' p = some (.lst [.str (S a), .str (S b)]) → Q (.ref p) H'
theorem rep_round {l : List Nat} {k : Int} (h : AllSg l) (h1 : 1 ≤ l.length) (h6 : l.length ≤ 6) (k0 : 0 ≤ k) (k1 : k < 24 / (l.length : Int) ∨ k = 0) : l.length * (1 + k).toNat ≤ 24 ∧ Rnd (List.replicate (1 + k).toNat l).flatten := by
  have key : l.length * (1 + k).toNat ≤ 24 := by
    rcases k1 with k1 | k1
    · have h2 : (1 + k) ≤ 24 / (l.length : Int) := by omega
      have h3 := (Int.le_ediv_iff_mul_le (show (0 : Int) < (l.length : Int) by omega)).mp h2
      have h4 : (((1 + k).toNat * l.length : Nat) : Int) ≤ 24 := by
        rw [Int.natCast_mul, Int.toNat_of_nonneg (by omega)]
        exact h3
      rw [Nat.mul_comm]
      omega
    · rw [k1]
      show l.length * 1 ≤ 24
      omega
  refine ⟨key, sg_rep _ h, ?_, ?_⟩
  · rw [rep_len]
    exact Nat.mul_pos (by omega) (by omega)
  · rw [rep_len, Nat.mul_comm]
    exact key
abbrev s_l_rounds : Stmt := topS 33
abbrev N_l_rounds : List Str := ["_law_draw_here", "_law_base", "_law_first", "_law_kind", "_law_second"]
theorem sc_l_rounds : FnScope ["_law_draw_here", "_law_base", "_law_first", "_law_kind", "_law_second"] ["_law_draw_here"] (defScope s_l_rounds) := ⟨rfl, rfl, rfl, by decide +kernel, rfl, by decide +kernel, by decide +kernel⟩
theorem can_l_rounds (T : Bi mg) (F : Defd K mg "_law_rounds" s_l_rounds ["_law_draw_here"]) (C_l_pick : Can P w K mg base L2.CX0 2 "_law_pick" ["_law_draw_here", "_law_many"] spPick) (C_l_round : Can P w K mg base L2.CX0 4 "_law_round" ["_law_draw_here", "_law_most"] spRound) (C_l_later : Can P w K mg base L2.CX0 1 "_law_later" ["_law_row", "_law_many"] spLater) (C_l_bent : Can P w K mg base L2.CX0 4 "_law_bent" ["_law_draw_here", "_law_row"] spBent) : Can P w K mg base L2.CX0 5 "_law_rounds" ["_law_draw_here"] spRounds := by
  refine can0 F sc_l_rounds (fun vs H Q E h => ?_) (fun f cdv A outer s H vs Q E hr h => ⟨_, (pss_cons (ps_set (i := 1) sc_l_rounds.nd rfl (by first | exact Or.inl rfl | exact Or.inr rfl) (pe_can C_l_round hr (by decide) rfl (pa_cons (pv 0) (pa_cons pe_int pa_nil))))
  (pss_cons (ps_set (i := 2) sc_l_rounds.nd rfl (by first | exact Or.inl rfl | exact Or.inr rfl) (pe_op op_repS (pv 1) (pe_op op_add pe_int (pe_can C_l_pick hr (by decide) rfl (pa_cons (pv 0) (pa_cons (pe_op op_fdivW pe_int (pe_callB call_lenS (by rfl) T.b_len boot_len (pa_cons (pv 1) pa_nil))) pa_nil))))))
  (pss_cons (ps_set (i := 3) sc_l_rounds.nd rfl (by first | exact Or.inl rfl | exact Or.inr rfl) (pe_can C_l_pick hr (by decide) rfl (pa_cons (pv 0) (pa_cons pe_int pa_nil))))
  (pss_cons (ps_set (i := 4) sc_l_rounds.nd rfl (by first | exact Or.inl rfl | exact Or.inr rfl) (pe_can C_l_later hr (by decide) rfl (pa_cons (pv 1) (pa_cons (pe_can C_l_pick hr (by decide) rfl (pa_cons (pv 0) (pa_cons (pe_callB call_lenS (by rfl) T.b_len boot_len (pa_cons (pv 1) pa_nil)) pa_nil))) pa_nil))))
  (pss_cons (ps_set (i := 4) sc_l_rounds.nd rfl (by first | exact Or.inl rfl | exact Or.inr rfl) (pe_op op_repS (pv 4) (pe_op op_add pe_int (pe_can C_l_pick hr (by decide) rfl (pa_cons (pv 0) (pa_cons (pe_op op_fdivW pe_int (pe_callB call_lenS (by rfl) T.b_len boot_len (pa_cons (pv 1) pa_nil))) pa_nil))))))
  (Evl.pss_cut (ps_if (pt_cmpR op_eq (pv 3) pe_int (nomark _)) (pss_one (ps_set (i := 4) sc_l_rounds.nd rfl (by first | exact Or.inl rfl | exact Or.inr rfl) (pe_slice sl_strS (pe_can C_l_bent hr (by decide) rfl (pa_cons (pv 0) (pa_cons (pv 4) pa_nil))) po_none (po_some pe_int)))) pss_nil)
  (Evl.pss_cut (ps_if (pt_cmpR op_eq (pv 3) pe_int (nomark _)) (pss_one (ps_set (i := 4) sc_l_rounds.nd rfl (by first | exact Or.inl rfl | exact Or.inr rfl) (pe_can C_l_round hr (by decide) rfl (pa_cons (pv 0) (pa_cons pe_int pa_nil))))) pss_nil)
  (pss_one (ps_ret (pe_lst (pa_cons (pv 2) (pa_cons (pv 4) pa_nil)))))))))))), ?_⟩)
  · obtain ⟨_, _, _, rfl, _⟩ := h
    rfl
  · obtain ⟨c, d, ns, rfl, hD, q⟩ := h
    walk_at "rd"
    refine ⟨c, d, 6, ns, rfl, hD, by decide, by decide, fun l H1 hs l1 l6 kp1 hD1 => ?_⟩
    have l6' : l.length ≤ 6 := l6
    have hq : 24 / (l.length : Int) ≤ 24 := Int.ediv_le_self _ (by decide)
    have dv : CDivW 24 (l.length : Int) := ⟨by omega, by
      have h3 : (l.length : Int).natAbs < 2 ^ 200 := by omega
      have := PySem.Flt.log2_lt_of (by decide : 0 < 200) h3
      omega⟩
    walk_at "rd"
    refine ⟨c, d, _, ns, rfl, hD1, by omega, fun k H2 k0 k1 kp2 hD2 => ?_⟩
    obtain ⟨w1, ra⟩ := rep_round hs l1 l6' k0 k1
    walk_at "rd"
    refine r_repS (by omega) (by omega) (small (by omega)) ?_
    walk_at "rd"
    refine ⟨c, d, 4, ns, rfl, hD2, by decide, fun j H3 j0 j1 kp3 hD3 => ?_⟩
    walk_at "rd"
    refine ⟨c, d, _, ns, rfl, hD3, by omega, fun t H4 t0 t1 kp4 hD4 => ?_⟩
    have hne : l ≠ [] := fun e => by rw [e] at l1; simp at l1
    refine ⟨l, t, rfl, hne, by omega, t0, fun H5 ex5 => ?_⟩
    have hD5 := hD4.ex' ex5
    walk_at "rd"
    refine ⟨c, d, _, ns, rfl, hD5, by omega, fun u H6 u0 u1 kp6 hD6 => ?_⟩
    have rl : (rot l t.toNat).length = l.length := rot_len _ _
    have kp : Kp d H H6 := (((kp1.trans kp2).trans kp3).trans kp4).trans ((Kp.of ex5).trans kp6)
    obtain ⟨w2, rb⟩ := rep_round (sg_rot t.toNat hs hne) (by omega) (by omega) u0 (by rw [rl]; exact u1)
    walk_at "rd"
    refine r_repS (by omega) (by omega) (small (by omega)) ?_
    walk_at "rd"
    refine r_cut (Mid := fun σ' H' => ∃ b, Rnd b ∧ σ' = [some (.ref d), some (.str (S l)), some (.str (S (List.replicate (1 + k).toNat l).flatten)), some (.int j), some (.str (S b))] ∧ Kp d H H' ∧ Dr ns c d H') ?_ ?_
    · walk_at "rd"
      refine r_ite (fun h3 => ?_) (fun h3 => ?_)
      · walk_at "rd"
        refine ⟨c, d, _, ns, rfl, hD6, rb.sg, rb.pos, rb.le, fun m H7 hm m1 m2 kp7 hD7 => ?_⟩
        have hb := rb.le
        walk_at "rd"
        rw [cut_to (by decide)]
        exact ⟨m.take 24, ⟨sg_take _ hm, by rw [List.length_take]; omega, by rw [List.length_take]; omega⟩, rfl, kp.trans kp7, hD7⟩
      · walk_at "rd"
        exact ⟨_, rb, rfl, kp, hD6⟩
    · rintro σ' H' ⟨b, hb, rfl, kp', hD'⟩
      refine r_cut (Mid := fun σ' H' => ∃ b, Rnd b ∧ σ' = [some (.ref d), some (.str (S l)), some (.str (S (List.replicate (1 + k).toNat l).flatten)), some (.int j), some (.str (S b))] ∧ Kp d H H' ∧ Dr ns c d H') ?_ ?_
      · walk_at "rd"
        refine r_ite (fun h3 => ?_) (fun h3 => ?_)
        · walk_at "rd"
          refine ⟨c, d, 24, ns, rfl, hD', by decide, by decide, fun m H7 hm m1 m2 kp7 hD7 => ?_⟩
          exact ⟨m, ⟨hm, m1, m2⟩, rfl, kp'.trans kp7, hD7⟩
        · walk_at "rd"
          exact ⟨b, hb, rfl, kp', hD'⟩
      · rintro σ2 H2 ⟨b2, hb2, rfl, kp2', hD2'⟩
        walk_at "rd"
        refine ⟨small (by show 2 ≤ 1000000; decide), fun p hp => ?_⟩
        exact q _ b2 p _ ra hb2 (kp2'.trans (Kp.of (Evl.Ex.new hp))) (hD2'.ex' (Evl.Ex.new hp)) (hD2'.nd hp) upd_same
end
end Fk

set_option Elab.async false
set_option linter.all false
set_option maxRecDepth 100000
set_option maxHeartbeats 4000000
namespace Fk
open PySem PySem.Spec PyProof.Rows L2 Fg Fm
local macro_rules | `(tactic| walk_at "rd1") => `(tactic| first
  | with_reducible refine r_seq ?_
  | with_reducible refine r_asg ?_
  | with_reducible refine r_gname ?_
  | with_reducible refine r_gsub ?_
  | with_reducible refine r_ret ?_
  | with_reducible refine r_retN ?_
  | with_reducible refine r_next ?_
  | with_reducible refine r_drop ?_
  | with_reducible refine r_ifS ?_
  | with_reducible refine r_if ?_
  | with_reducible refine r_par ?_
  | with_reducible refine r_pair ?_
  | with_reducible refine r_test ?_
  | with_reducible refine r_tB ?_
  | with_reducible refine r_not ?_
  | with_reducible refine r_and ?_
  | with_reducible refine r_or ?_
  | with_reducible refine r_andV ?_
  | with_reducible refine r_orV ?_
  | with_reducible refine r_notV ?_
  | with_reducible refine r_nil ?_
  | with_reducible refine r_cons ?_
  | with_reducible refine r_call ?_
  | with_reducible refine r_callS ?_
  | with_reducible refine r_cb ?_
  | with_reducible refine r_then ?_
  | with_reducible refine r_tup ?_
  | with_reducible refine r_lst ?_
  | with_reducible refine r_sl ?_
  | with_reducible refine r_nopart ?_
  | with_reducible refine r_part ?_
  | with_reducible refine r_lcR1 ?_
  | with_reducible refine r_lcR2 ?_
  | with_reducible refine r_lcL ?_
  | with_reducible refine r_lcT ?_
  | with_reducible refine r_forR1 ?_
  | with_reducible refine r_forR2 ?_
  | with_reducible refine r_forL ?_
  | with_reducible refine r_forT ?_
  | with_reducible refine r_forE ?_
  | with_reducible refine r_strE ?_
  | ((with_reducible refine r_rng1 ?hc ?_); (case hc => omega))
  | ((with_reducible refine r_rng2 ?hc ?_); (case hc => omega))
  | ((with_reducible refine' r_refL ?hc ?_); (case hc => first | assumption | exact Evl.sq_of (by assumption)))
  | ((with_reducible refine' r_refT ?hc ?_); (case hc => first | assumption | exact Evl.st_of (by assumption)))
  | with_reducible refine r_op ?_
  | with_reducible refine r_un ?_
  | with_reducible refine r_chain ?_
  | ((with_reducible refine' r_var ?hv ?_); (case hv => exact rfl))
  | with_reducible refine r_cs ?_
  | with_reducible refine r_c ?_
  | with_reducible refine r_yes ?_
  | with_reducible refine r_bm ?_
  | with_reducible refine r_bl ?_
  | with_reducible refine r_in ?_
  | with_reducible refine r_ty ?_
  | with_reducible refine r_I0 ?_
  | ((with_reducible refine r_I ?hc ?_); (case hc => first | assumption | (show (0 : Int) < _; decide) | exact Or.inr ⟨by decide, by decide⟩ | exact Or.inr ⟨by omega, by omega⟩ | exact Or.inl ⟨by decide, by decide⟩ | exact (show CDivW _ _ from ⟨by decide, by decide +kernel⟩) | exact (show CPowW _ _ from ⟨by decide, by decide +kernel⟩) | (show (0 : Int) < _; omega)))
  | with_reducible refine r_U ?_
  | with_reducible refine r_eqI ?_
  | with_reducible refine r_neI ?_
  | with_reducible refine r_eqS ?_
  | with_reducible refine r_neS ?_
  | with_reducible refine r_eqB ?_
  | with_reducible refine r_neB ?_
  | with_reducible refine r_niS ?_
  | with_reducible refine r_inSS ?_
  | ((with_reducible refine r_slSS ?hc ?_); (case hc => first | exact small (by omega) | exact small (by simp; omega)))
  | ((with_reducible refine r_lenS ?hc ?_); (case hc => first | exact small (by omega) | exact small (by simp; omega)))
  | ((with_reducible refine' r_lenL ?hc ?_); (case hc => first | assumption | exact Evl.sq_of (by assumption)))
  | ((with_reducible refine' r_lenT ?hc ?_); (case hc => first | assumption | exact Evl.st_of (by assumption)))
  | ((with_reducible refine' r_ixL ?h1 ?h2 ?h3 ?_); (case h1 => first | assumption | exact Evl.sq_of (by assumption) | exact Evl.sq_of upd_same); (case h2 => first | decide | omega); (case h3 => first | exact rfl | assumption))
  | ((with_reducible refine' r_ixT ?h1 ?h2 ?h3 ?_); (case h1 => first | assumption | exact Evl.st_of (by assumption)); (case h2 => first | decide | omega); (case h3 => first | exact rfl | assumption))
  | with_reducible refine r_T ?_
  | with_reducible refine r_notNn ?_
  | with_reducible refine r_notN_int ?_
  | with_reducible refine r_notN_str ?_
  | with_reducible refine r_notN_ref ?_
  | with_reducible refine r_isNn ?_
  | with_reducible refine r_isN_int ?_
  | with_reducible refine r_isN_str ?_
  | with_reducible refine r_isN_ref ?_
  | ((with_reducible refine' r_isi ?ht ?hk ?_); (case ht => first | exact .base (.int _) | exact .base (.bl _) | exact .base (.str _) | exact .base .non | exact .base (.lst (by assumption)) | exact .base (.tup (by assumption))); (case hk => first | exact kb_int_int | exact kb_int_bool | exact kb_int_str | exact kb_int_list | exact kb_int_tuple | exact kb_bool_int | exact kb_bool_bool | exact kb_bool_str | exact kb_bool_list | exact kb_bool_tuple | exact kb_str_int | exact kb_str_bool | exact kb_str_str | exact kb_str_list | exact kb_str_tuple | exact kb_NoneType_int | exact kb_NoneType_bool | exact kb_NoneType_str | exact kb_NoneType_list | exact kb_NoneType_tuple | exact kb_list_int | exact kb_list_bool | exact kb_list_str | exact kb_list_list | exact kb_list_tuple | exact kb_tuple_int | exact kb_tuple_bool | exact kb_tuple_str | exact kb_tuple_list | exact kb_tuple_tuple))
  | with_reducible refine r_F ?_
  | with_reducible refine r_nT ?_
  | with_reducible refine r_nF ?_
  | with_reducible refine r_mko ?_
  | with_reducible refine r_xf ?_
  | ((with_reducible refine' r_sum ?hc ?_); (case hc => first | assumption | exact Evl.sq_of (by assumption)))
  | ((with_reducible refine' r_setL ?h1 ?h2 ?h3 ?_); (case h1 => first | assumption | exact upd_same); (case h2 => first | decide | omega); (case h3 => first | (show _ < _; decide) | (simp; done)))
  | with_reducible refine r_int ?_
  | with_reducible refine r_abs ?_)
local macro_rules | `(tactic| walk_at "rd") => `(tactic| repeat (walk_at "rd1"))

section
variable {P : Program} {w : World} {K : PySem.W.Frag} {mg : Str → Option Value} {base : Heap}
abbrev SGL : List Nat := [46, 103, 114, 119]
theorem sgl (c : Nat) : c ∈ SGL ↔ Sg c := by unfold SGL Sg; simp
def FirstBad (l : List Nat) (i : Nat) : Prop := ∃ c, l[i]? = some c ∧ ¬ Sg c ∧ ∀ j c, j < i → l[j]? = some c → Sg c
def spWrong : Sp := fun vs H Q _ => ∃ l : List Nat, vs = [.str (S l)] ∧ (∀ (i : Nat) H', FirstBad l i → Ex H H' → Q (.int (i : Int)) H') ∧ ∀ H', AllSg l → Ex H H' → Q .non H'
abbrev s_wrong_sign : Stmt := topS 9
abbrev N_wrong_sign : List Str := ["text", "at", "char"]
theorem sc_wrong_sign : FnScope ["text", "at", "char"] ["text"] (defScope s_wrong_sign) := ⟨rfl, rfl, rfl, by decide +kernel, rfl, by decide +kernel, by decide +kernel⟩
theorem can_wrong_sign (T : Bi mg) (F : Defd K mg "wrong_sign" s_wrong_sign ["text"]) (c_SIGNS : ∃ u, mg "SIGNS" = some u ∧ RelV (.str (S SGL)) u) : Can P w K mg base L2.CX0 1 "wrong_sign" ["text"] spWrong := by
  refine can0 F sc_wrong_sign (fun vs H Q E h => ?_) (fun f cdv A outer s H vs Q E hr h => ⟨_, (pss_cons (ps_for PassesOwn.never rfl (pi_enumS (by rfl) T.b_enumerate (pa_cons (pv 0) pa_nil)) (pg_tup rfl (pgs_cons (pg_name (i := 1) sc_wrong_sign.nd rfl (by first | exact Or.inl rfl | exact Or.inr rfl)) (pgs_cons (pg_name (i := 2) sc_wrong_sign.nd rfl (by first | exact Or.inl rfl | exact Or.inr rfl)) pgs_nil)))
    (pss_one (ps_if (pt_cmpR op_niS (pv 2) (C8.pe_gc rfl c_SIGNS) (by rfl)) (pss_one (ps_ret (pv 1))) pss_nil)))
  (pss_one (ps_ret pe_non))), ?_⟩)
  · obtain ⟨_, rfl, _⟩ := h
    rfl
  · obtain ⟨l, rfl, q1, q2⟩ := h
    walk_at "rd"
    refine forE (fun i σ' H' => ∃ x y, σ' = [some (.str (S l)), x, y] ∧ Ex H H' ∧ ∀ j c, j < i → l[j]? = some c → Sg c) ⟨none, none, rfl, Evl.Ex.refl H, fun j c h => by omega⟩ (fun i c σ' H' T0 hc hJ hT => ?_) (fun σ' H' hJ => ?_)
    · obtain ⟨x, y, rfl, ex, hJ⟩ := hJ
      have ex2 := ex.trans (Evl.Ex.new (o := .tup [V.int (i : Nat), V.str (S [c])]) hT)
      refine r_gtup2 (Evl.st_of upd_same) ?_
      walk_at "rd"
      refine r_iteN (fun h => ?_) (fun h => ?_)
      · walk_at "rd"
        exact q1 i _ ⟨c, hc, fun z => h ((sgl c).mpr z), hJ⟩ ex2
      · walk_at "rd"
        refine ⟨_, _, rfl, ex2, fun j c2 hj hc2 => ?_⟩
        by_cases e : j = i
        · rw [e, hc] at hc2
          injection hc2 with e2
          rw [← e2]
          exact (sgl c).mp h
        · exact hJ j c2 (by omega) hc2
    · obtain ⟨x, y, rfl, ex, hJ⟩ := hJ
      walk_at "rd"
      refine q2 H' (fun c hc => ?_) ex
      obtain ⟨j, hj⟩ := List.getElem?_of_mem hc
      exact hJ j c (lt_of_get hj) hj
def NotStr (H : Hp) (x : V) : Prop := x = .non ∨ (∃ b, x = .bl b) ∨ (∃ i, x = .int i) ∨ (∃ a xs, x = .ref a ∧ H a = some (.lst xs)) ∨ (∃ a xs, x = .ref a ∧ H a = some (.tup xs))
theorem NotStr.ex {H H' : Hp} {x : V} (h : NotStr H x) (e : Ex H H') : NotStr H' x := by
  rcases h with h | h | h | ⟨a, xs, h1, h2⟩ | ⟨a, xs, h1, h2⟩
  · exact .inl h
  · exact .inr (.inl h)
  · exact .inr (.inr (.inl h))
  · exact .inr (.inr (.inr (.inl ⟨a, xs, h1, e _ _ h2⟩)))
  · exact .inr (.inr (.inr (.inr ⟨a, xs, h1, e _ _ h2⟩)))
theorem NotStr.ty {H : Hp} {x : V} (h : NotStr H x) : ∃ m, TyX K H x (.type m) ∧ kitB m "str" = some false := by
  rcases h with rfl | ⟨b, rfl⟩ | ⟨i, rfl⟩ | ⟨a, xs, rfl, h2⟩ | ⟨a, xs, rfl, h2⟩
  · exact ⟨_, .base .non, kb_NoneType_str⟩
  · exact ⟨_, .base (.bl b), kb_bool_str⟩
  · exact ⟨_, .base (.int i), kb_int_str⟩
  · exact ⟨_, .base (.lst h2), kb_list_str⟩
  · exact ⟨_, .base (.tup h2), kb_tuple_str⟩
def BadRd (H : Hp) (x : V) (n : Int) : Prop := (n = -1 ∧ (NotStr H x ∨ ∃ l, x = .str (S l) ∧ l.length ≤ 1000 ∧ (l.length = 0 ∨ 24 < l.length))) ∨ ∃ l i, x = .str (S l) ∧ 1 ≤ l.length ∧ l.length ≤ 24 ∧ FirstBad l i ∧ n = (i : Int)
theorem BadRd.ex {H H' : Hp} {x : V} {n : Int} (h : BadRd H x n) (e : Ex H H') : BadRd H' x n := by
  rcases h with ⟨h1, h2⟩ | h
  · exact .inl ⟨h1, h2.imp (fun z => z.ex e) id⟩
  · exact .inr h
/-- a thing that is passed as a round: it is one, or the error is wished for -/
def RdArg (C : Addr) (H : Hp) (x : V) (E : XK) (ok : List Nat → Prop) : Prop := (∃ l, x = .str (S l) ∧ Rnd l ∧ ok l) ∨ ∃ n, BadRd H x n ∧ Wish C "number" (.int n) H E
def spCheck (C : Addr) : Sp := fun vs H Q E => ∃ x, vs = [x] ∧ RdArg C H x E fun _ => ∀ H', Ex H H' → Q .non H'
theorem notBad {l : List Nat} {i : Nat} (h : AllSg l) (k : FirstBad l i) : False := by
  obtain ⟨c, h1, h2, _⟩ := k
  exact h2 (h c (List.mem_of_getElem? h1))
abbrev s_check_round : Stmt := topS 10
abbrev N_check_round : List Str := ["row", "at"]
theorem sc_check_round : FnScope ["row", "at"] ["row"] (defScope s_check_round) := ⟨rfl, rfl, rfl, by decide +kernel, rfl, by decide +kernel, by decide +kernel⟩
theorem can_check_round (T : Bi mg) (F : Defd K mg "check_round" s_check_round ["row"]) (c_MOST_BEATS : ∃ u, mg "MOST_BEATS" = some u ∧ RelV (.int 24) u) {A_BadRound : Addr} (E_BadRound : Err P w K mg base "BadRound" A_BadRound "number") (C_wrong_sign : Can P w K mg base L2.CX0 1 "wrong_sign" ["text"] spWrong) : Can P w K mg base (L2.CX P w) 3 "check_round" ["row"] (spCheck A_BadRound) := by
  refine canX F sc_check_round (fun vs H Q E h => ?_) (fun f cdv A outer s H vs Q E hr h => ⟨_, (pss_cons (ps_if (PW.pt (pw_or (pt_not (pt_val (pe_callB call_isi (by rfl) T.b_isinstance boot_isinstance (pa_cons (pv 0) (pa_cons (pe_bltn (v := .ty "str") (by rfl) T.b_str boot_str rfl) pa_nil))))) (pw_or1 (pt_not (pt_chain op_le op_le pe_int (pe_callB call_lenS (by rfl) T.b_len boot_len (pa_cons (pv 0) pa_nil)) (C8.pe_gc rfl c_MOST_BEATS)))))) (pss_one (ps_raise rfl (takes_of rfl rfl rfl rfl) (pmk_err E_BadRound hr (by decide) rfl (pa_cons (pe_un un_neg pe_int) pa_nil)))) pss_nil)
  (pss_cons (ps_set (i := 1) sc_check_round.nd rfl (by first | exact Or.inl rfl | exact Or.inr rfl) (pe_can C_wrong_sign hr (by decide) rfl (pa_cons (pv 0) pa_nil)))
  (pss_one (ps_if (pt_cmpR op_notN1 (pv 1) pe_non (nomark _)) (pss_one (ps_raise rfl (takes_of rfl rfl rfl rfl) (pmk_err E_BadRound hr (by decide) rfl (pa_cons (pv 1) pa_nil)))) pss_nil)))), ?_⟩)
  · obtain ⟨_, rfl, _⟩ := h
    rfl
  · obtain ⟨x, rfl, h⟩ := h
    rcases h with ⟨l, rfl, hl, q⟩ | ⟨n, hb, wi⟩
    · have h1 := hl.pos
      have h2 := hl.le
      walk_at "rd"
      refine r_ite (fun _ => ?_) (fun h => absurd h (by omega))
      walk_at "rd"
      refine r_iteN (fun h => absurd h (by omega)) (fun _ => ?_)
      walk_at "rd"
      refine ⟨l, rfl, fun i H' hi _ => (notBad hl.sg hi).elim, fun H' _ ex => ?_⟩
      walk_at "rd"
      exact q H' ex
    · rcases hb with ⟨rfl, hb | ⟨l, rfl, l1, l2⟩⟩ | ⟨l, i, rfl, l1, l2, hi, rfl⟩
      · obtain ⟨m, hm, hk⟩ := hb.ty
        walk_at "rd"
        refine r_isi hm hk ?_
        walk_at "rd"
        exact r_mk wi
      · walk_at "rd"
        refine r_ite (fun h3 => ?_) (fun h3 => ?_)
        · walk_at "rd"
          refine r_iteN (fun h4 => ?_) (fun h4 => absurd h4 (by omega))
          walk_at "rd"
          exact r_mk wi
        · walk_at "rd"
          exact r_mk wi
      · walk_at "rd"
        refine r_ite (fun _ => ?_) (fun h => absurd h (by omega))
        walk_at "rd"
        refine r_iteN (fun h => absurd h (by omega)) (fun _ => ?_)
        walk_at "rd"
        refine ⟨l, rfl, fun j H' hj ex => ?_, fun H' hs _ => (notBad hs hi).elim⟩
        have e : j = i := by
          obtain ⟨c, a1, a2, a3⟩ := hi
          obtain ⟨c', b1, b2, b3⟩ := hj
          rcases Nat.lt_trichotomy i j with q | q | q
          · exact absurd (b3 i c q a1) a2
          · exact q.symm
          · exact absurd (a3 j c' q b1) b2
        subst e
        walk_at "rd"
        exact r_mk (wi.ex ex)
def spChecks (C : Addr) : Sp := fun vs H Q E => ∃ x y, vs = [x, y] ∧ RdArg C H x E fun _ => RdArg C H y E fun _ => ∀ H', Ex H H' → Q .non H'
theorem RdArg.ex {C : Addr} {H H' : Hp} {x : V} {E : XK} {ok : List Nat → Prop} (h : RdArg C H x E ok) (e : Ex H H') : RdArg C H' x E ok := by
  rcases h with h | ⟨n, h1, h2⟩
  · exact .inl h
  · exact .inr ⟨n, h1.ex e, h2.ex e⟩
theorem RdArg.imp {C : Addr} {H : Hp} {x : V} {E E' : XK} {ok ok' : List Nat → Prop} (h : RdArg C H x E ok) (k : ∀ l, Rnd l → ok l → ok' l) (ke : ∀ c d H, E c d H → E' c d H) : RdArg C H x E' ok' := by
  rcases h with ⟨l, h1, h2, h3⟩ | ⟨n, h1, h2⟩
  · exact .inl ⟨l, h1, h2, k l h2 h3⟩
  · exact .inr ⟨n, h1, fun d H' a b c => ke _ _ _ (h2 d H' a b c)⟩
abbrev s_check_rounds : Stmt := topS 12
abbrev N_check_rounds : List Str := ["first", "second"]
theorem sc_check_rounds : FnScope ["first", "second"] ["first", "second"] (defScope s_check_rounds) := ⟨rfl, rfl, rfl, by decide +kernel, rfl, by decide +kernel, by decide +kernel⟩
theorem can_check_rounds (T : Bi mg) (F : Defd K mg "check_rounds" s_check_rounds ["first", "second"]) {A_BadRound : Addr} (C_check_round : Can P w K mg base (L2.CX P w) 3 "check_round" ["row"] (spCheck A_BadRound)) : Can P w K mg base (L2.CX P w) 4 "check_rounds" ["first", "second"] (spChecks A_BadRound) := by
  refine canX F sc_check_rounds (fun vs H Q E h => ?_) (fun f cdv A outer s H vs Q E hr h => ⟨_, (pss_cons (ps_expr (pe_canX C_check_round hr (by decide) rfl (passes_call (takes_of rfl rfl rfl rfl) (fun _ _ _ _ h => h)) (pa_cons (pv 0) pa_nil)))
  (pss_one (ps_expr (pe_canX C_check_round hr (by decide) rfl (passes_call (takes_of rfl rfl rfl rfl) (fun _ _ _ _ h => h)) (pa_cons (pv 1) pa_nil))))), ?_⟩)
  · obtain ⟨_, _, rfl, _⟩ := h
    rfl
  · obtain ⟨x, y, rfl, h⟩ := h
    walk_at "rd"
    refine ⟨x, rfl, h.imp (fun l hl h2 H1 ex1 => ?_) fun _ _ _ z => z⟩
    walk_at "rd"
    refine ⟨y, rfl, (h2.ex ex1).imp (fun l hl q H2 ex2 => ?_) fun _ _ _ z => z⟩
    exact q H2 (ex1.trans ex2)
def spTurnedRow : Sp := fun vs H Q _ => ∃ (l : List Nat) (n : Int), vs = [.str (S l), .int n] ∧ l ≠ [] ∧ l.length ≤ 100 ∧ 0 ≤ n ∧ Q (.str (S (rot l n.toNat))) H
abbrev s_turned_row : Stmt := topS 13
abbrev N_turned_row : List Str := ["row", "beats", "at"]
theorem sc_turned_row : FnScope ["row", "beats", "at"] ["row", "beats"] (defScope s_turned_row) := ⟨rfl, rfl, rfl, by decide +kernel, rfl, by decide +kernel, by decide +kernel⟩
theorem can_turned_row (T : Bi mg) (F : Defd K mg "turned_row" s_turned_row ["row", "beats"]) : Can P w K mg base L2.CX0 1 "turned_row" ["row", "beats"] spTurnedRow := by
  refine can0 F sc_turned_row (fun vs H Q E h => ?_) (fun f cdv A outer s H vs Q E hr h => ⟨_, (pss_cons (ps_set (i := 2) sc_turned_row.nd rfl (by first | exact Or.inl rfl | exact Or.inr rfl) (pe_op op_mod (pv 1) (pe_callB call_lenS (by rfl) T.b_len boot_len (pa_cons (pv 0) pa_nil))))
  (pss_one (ps_ret (pe_op op_catS (pe_slice sl_strS (pv 0) (po_some (pv 2)) po_none) (pe_slice sl_strS (pv 0) po_none (po_some (pv 2))))))), ?_⟩)
  · obtain ⟨_, _, rfl, _⟩ := h
    rfl
  · obtain ⟨l, n, rfl, hne, hl, hn, q⟩ := h
    have h1 := pos_len hne
    have h2 : (0 : Int) < (l.length : Int) := by omega
    have h3 : 0 ≤ n % (l.length : Int) := Int.emod_nonneg _ (by omega)
    walk_at "rd"
    rw [cut_from h3, cut_to h3]
    have e : (n % (l.length : Int)).toNat = n.toNat % l.length := by
      have e1 : n = ((n.toNat : Nat) : Int) := by omega
      rw [e1, ← Int.natCast_emod, Int.toNat_natCast, Int.toNat_natCast]
    refine r_catS (small (by rw [List.length_take, List.length_drop]; omega)) ?_
    rw [e, turn_eq hne]
    exact q
def spShortest : Sp := fun vs H Q _ => ∃ (l : List Nat), vs = [.str (S l)] ∧ l ≠ [] ∧ l.length ≤ 100 ∧ Q (.str (S (lst l))) H
abbrev s_shortest_row : Stmt := topS 14
abbrev N_shortest_row : List Str := ["row", "size"]
theorem sc_shortest_row : FnScope ["row", "size"] ["row"] (defScope s_shortest_row) := ⟨rfl, rfl, rfl, by decide +kernel, rfl, by decide +kernel, by decide +kernel⟩
theorem can_shortest_row (T : Bi mg) (F : Defd K mg "shortest_row" s_shortest_row ["row"]) : Can P w K mg base L2.CX0 1 "shortest_row" ["row"] spShortest := by
  refine can0 F sc_shortest_row (fun vs H Q E h => ?_) (fun f cdv A outer s H vs Q E hr h => ⟨_, (pss_cons (ps_set (i := 1) sc_shortest_row.nd rfl (by first | exact Or.inl rfl | exact Or.inr rfl) pe_int)
  (pss_cons (ps_while PassesOwn.never (pt_cmpR op_ne (pe_op op_repS (pe_slice sl_strS (pv 0) po_none (po_some (pv 1))) (pe_op op_fdivW (pe_callB call_lenS (by rfl) T.b_len boot_len (pa_cons (pv 0) pa_nil)) (pv 1))) (pv 0) (nomark _)) (pss_one (ps_set (i := 1) sc_shortest_row.nd rfl (by first | exact Or.inl rfl | exact Or.inr rfl) (pe_op op_add (pv 1) pe_int))))
  (pss_one (ps_ret (pe_slice sl_strS (pv 0) po_none (po_some (pv 1))))))), ?_⟩)
  · obtain ⟨_, rfl, _⟩ := h
    rfl
  · obtain ⟨l, rfl, hne, hl, q⟩ := h
    have h1 := pos_len hne
    walk_at "rd"
    refine ⟨fun m σ' H' => ∃ k : Nat, σ' = [some (.str (S l)), some (.int (k : Int))] ∧ H' = H ∧ m + k = l.length ∧ 1 ≤ k ∧ ∀ j, 1 ≤ j → j < k → ¬ Rep l j, ⟨l.length - 1, 1, rfl, rfl, by omega, by omega, fun j a b => by omega⟩, fun m σ' H' hW => ?_⟩
    obtain ⟨k, rfl, rfl, hm, hk, hJ⟩ := hW
    have k0 : (0 : Int) < (k : Int) := by omega
    have dv : CDivW (l.length : Int) (k : Int) := ⟨k0, by
      have h3 : (k : Int).natAbs < 2 ^ 200 := by omega
      have := PySem.Flt.log2_lt_of (by decide : 0 < 200) h3
      omega⟩
    have eq : (l.length : Int) / (k : Int) = ((l.length / k : Nat) : Int) := by rw [Int.natCast_ediv]
    have q1 : l.length / k ≤ l.length := Nat.div_le_self _ _
    have q0 : 0 ≤ (l.length : Int) / (k : Int) := by rw [eq]; exact Int.natCast_nonneg _
    have q9 : (l.length : Int) / (k : Int) ≤ 100 := by rw [eq]; exact Int.ofNat_le.mpr (Nat.le_trans q1 hl)
    have eqn : ((l.length : Int) / (k : Int)).toNat = l.length / k := by rw [eq, Int.toNat_natCast]
    have q2 : (l.take k).length * (l.length / k) ≤ l.length := by
      rw [List.length_take, Nat.min_eq_left (by omega), Nat.mul_comm]
      exact Nat.div_mul_le_self _ _
    walk_at "rd"
    rw [cut_to (by omega), Int.toNat_natCast]
    refine r_repS q0 (by omega) (by rw [eqn]; exact small (by omega)) ?_
    rw [eqn]
    walk_at "rd"
    refine r_iteN (fun h => ?_) (fun h => ?_)
    · have hlt : k < l.length := by
        by_cases e : k = l.length
        · exact absurd (by rw [e]; exact rep_last hne) h
        · omega
      refine ⟨fun σ2 H2 => ∃ k2 : Nat, σ2 = [some (.str (S l)), some (.int (k2 : Int))] ∧ H2 = H' ∧ (m - 1) + k2 = l.length ∧ 1 ≤ k2 ∧ ∀ j, 1 ≤ j → j < k2 → ¬ Rep l j, fun σ2 H2 z => ⟨m - 1, by omega, z⟩, ?_⟩
      walk_at "rd"
      refine ⟨k + 1, rfl, rfl, by omega, by omega, fun j a b => ?_⟩
      by_cases e : j = k
      · rw [e]; exact h
      · exact hJ j a (by omega)
    · walk_at "rd"
      rw [cut_to (by omega), Int.toNat_natCast]
      have e : k = per l := rep_least hne hk (by omega) h hJ
      unfold lst at q
      rw [← e] at q
      exact q
/-- whether a thing is an integer, by its kind -/
def IntB (H : Hp) (x : V) (b : Bool) : Prop := (∃ i, x = .int i ∧ b = true) ∨ ((∃ k, x = .bl k) ∧ b = false) ∨ (x = .non ∧ b = false) ∨ ((∃ l, x = .str l) ∧ b = false) ∨ ((∃ a xs, x = .ref a ∧ H a = some (.lst xs)) ∧ b = false) ∨ ((∃ a xs, x = .ref a ∧ H a = some (.tup xs)) ∧ b = false)
theorem IntB.ex {H H' : Hp} {x : V} {b : Bool} (h : IntB H x b) (e : Ex H H') : IntB H' x b := by
  rcases h with h | h | h | h | ⟨⟨a, xs, h1, h2⟩, h3⟩ | ⟨⟨a, xs, h1, h2⟩, h3⟩
  · exact .inl h
  · exact .inr (.inl h)
  · exact .inr (.inr (.inl h))
  · exact .inr (.inr (.inr (.inl h)))
  · exact .inr (.inr (.inr (.inr (.inl ⟨⟨a, xs, h1, e _ _ h2⟩, h3⟩))))
  · exact .inr (.inr (.inr (.inr (.inr ⟨⟨a, xs, h1, e _ _ h2⟩, h3⟩))))
def spIsInt : Sp := fun vs H Q _ => ∃ x b, vs = [x] ∧ IntB H x b ∧ Q (.bl b) H
abbrev s_is_integer : Stmt := topS 5
abbrev N_is_integer : List Str := ["thing"]
theorem sc_is_integer : FnScope ["thing"] ["thing"] (defScope s_is_integer) := ⟨rfl, rfl, rfl, by decide +kernel, rfl, by decide +kernel, by decide +kernel⟩
theorem can_is_integer (T : Bi mg) (F : Defd K mg "is_integer" s_is_integer ["thing"]) : Can P w K mg base L2.CX0 1 "is_integer" ["thing"] spIsInt := by
  refine can0 F sc_is_integer (fun vs H Q E h => ?_) (fun f cdv A outer s H vs Q E hr h => ⟨_, (pss_one (ps_ret (pe_and (pe_callB call_isi (by rfl) T.b_isinstance boot_isinstance (pa_cons (pv 0) (pa_cons (pe_bltn (v := .ty "int") (by rfl) T.b_int boot_int rfl) pa_nil))) (pe_one (pe_not (pe_callB call_isi (by rfl) T.b_isinstance boot_isinstance (pa_cons (pv 0) (pa_cons (pe_bltn (v := .ty "bool") (by rfl) T.b_bool boot_bool rfl) pa_nil)))))))), ?_⟩)
  · obtain ⟨_, _, rfl, _⟩ := h
    rfl
  · obtain ⟨x, b, rfl, hb, q⟩ := h
    rcases hb with ⟨i, rfl, rfl⟩ | ⟨⟨k, rfl⟩, rfl⟩ | ⟨rfl, rfl⟩ | ⟨⟨l, rfl⟩, rfl⟩ | ⟨⟨a, xs, rfl, h⟩, rfl⟩ | ⟨⟨a, xs, rfl, h⟩, rfl⟩
    all_goals
      walk_at "rd"
      exact q
def spLeastRound (C : Addr) : Sp := fun vs H Q E => ∃ x, vs = [x] ∧ RdArg C H x E fun l => ∀ H', Ex H H' → Q (.str (S (lst l))) H'
abbrev s_least_round : Stmt := topS 15
abbrev N_least_round : List Str := ["row"]
theorem sc_least_round : FnScope ["row"] ["row"] (defScope s_least_round) := ⟨rfl, rfl, rfl, by decide +kernel, rfl, by decide +kernel, by decide +kernel⟩
theorem can_least_round (T : Bi mg) (F : Defd K mg "least_round" s_least_round ["row"]) {A_BadRound : Addr} (C_check_round : Can P w K mg base (L2.CX P w) 3 "check_round" ["row"] (spCheck A_BadRound)) (C_shortest_row : Can P w K mg base L2.CX0 1 "shortest_row" ["row"] spShortest) : Can P w K mg base (L2.CX P w) 4 "least_round" ["row"] (spLeastRound A_BadRound) := by
  refine canX F sc_least_round (fun vs H Q E h => ?_) (fun f cdv A outer s H vs Q E hr h => ⟨_, (pss_cons (ps_expr (pe_canX C_check_round hr (by decide) rfl (passes_call (takes_of rfl rfl rfl rfl) (fun _ _ _ _ h => h)) (pa_cons (pv 0) pa_nil)))
  (pss_one (ps_ret (pe_can C_shortest_row hr (by decide) rfl (pa_cons (pv 0) pa_nil))))), ?_⟩)
  · obtain ⟨_, rfl, _⟩ := h
    rfl
  · obtain ⟨x, rfl, h⟩ := h
    rcases h with ⟨l, rfl, hl, q⟩ | ⟨n, hb, wi⟩
    · have h2 := hl.le
      walk_at "rd"
      refine ⟨_, rfl, .inl ⟨l, rfl, hl, fun H1 ex1 => ?_⟩⟩
      walk_at "rd"
      exact ⟨l, rfl, hl.ne, by omega, q H1 ex1⟩
    · walk_at "rd"
      exact ⟨x, rfl, .inr ⟨n, hb, wi⟩⟩
def spRhythm (C : Addr) : Sp := fun vs H Q E => ∃ x, vs = [x] ∧ RdArg C H x E fun l => ∀ z H', z ∈ rots (lst l) → (∀ y ∈ rots (lst l), ¬ y < z) → Ex H H' → Q (.str (S z)) H'
abbrev s_rhythm : Stmt := topS 16
abbrev N_rhythm : List Str := ["row", "least", "beats"]
theorem sc_rhythm : FnScope ["row", "least", "beats"] ["row"] (defScope s_rhythm) := ⟨rfl, rfl, rfl, by decide +kernel, rfl, by decide +kernel, by decide +kernel⟩
theorem can_rhythm (T : Bi mg) (F : Defd K mg "rhythm" s_rhythm ["row"]) {A_BadRound : Addr} (C_check_round : Can P w K mg base (L2.CX P w) 3 "check_round" ["row"] (spCheck A_BadRound)) (C_shortest_row : Can P w K mg base L2.CX0 1 "shortest_row" ["row"] spShortest) (C_turned_row : Can P w K mg base L2.CX0 1 "turned_row" ["row", "beats"] spTurnedRow) : Can P w K mg base (L2.CX P w) 4 "rhythm" ["row"] (spRhythm A_BadRound) := by
  refine canX F sc_rhythm (fun vs H Q E h => ?_) (fun f cdv A outer s H vs Q E hr h => ⟨_, (pss_cons (ps_expr (pe_canX C_check_round hr (by decide) rfl (passes_call (takes_of rfl rfl rfl rfl) (fun _ _ _ _ h => h)) (pa_cons (pv 0) pa_nil)))
  (pss_cons (ps_set (i := 1) sc_rhythm.nd rfl (by first | exact Or.inl rfl | exact Or.inr rfl) (pe_can C_shortest_row hr (by decide) rfl (pa_cons (pv 0) pa_nil)))
  (pss_one (ps_ret (pe_callB (cr_minS rfl (hu64 hr)) (by rfl) T.b_min boot_min (pa_cons (pe_lc (own := [("beats", 2)]) (g := gName 2) (tt := tYes) rfl sc_rhythm.nd (pi_range1 rfl T.b_range (pa_cons (pe_callB call_lenS (by rfl) T.b_len boot_len (pa_cons (pv 1) pa_nil)) pa_nil)) (blkOk_by (N := N_rhythm) (sc := defScope s_rhythm) (by decide +kernel)) (fun _ _ _ _ _ => pg_name (i := 2) sc_rhythm.nd rfl (Or.inl rfl)) (fun _ _ _ _ _ => pts_nil) (fun _ _ _ _ _ => (pe_can C_turned_row hr (by decide) rfl (pa_cons (pv 1) (pa_cons (pv 2) pa_nil))))) pa_nil)))))), ?_⟩)
  · obtain ⟨_, rfl, _⟩ := h
    rfl
  · obtain ⟨x, rfl, h⟩ := h
    rcases h with ⟨l, rfl, hl, q⟩ | ⟨n, hb, wi⟩
    · have h2 := hl.le
      have p := per_spec hl.ne
      have hm := lst_ne hl.ne
      have lm : (lst l).length ≤ 24 := by rw [lst_len hl.ne]; omega
      walk_at "rd"
      refine ⟨_, rfl, .inl ⟨l, rfl, hl, fun H1 ex1 => ?_⟩⟩
      walk_at "rd"
      refine ⟨l, rfl, hl.ne, by omega, ?_⟩
      walk_at "rd"
      refine lcR (fun D i acc H2 => Ex H1 H2 ∧ acc = (List.range i).map fun i => V.str (S (rot (lst l) i))) (fun _ => rfl) (fun D hD => ⟨Evl.Ex.new hD, rfl⟩)
        (fun D i H2 acc hD hi e2 hl2 hJ => ?_) (fun D H2 acc hD e2 hJ => ?_)
      · obtain ⟨ex, rfl⟩ := hJ
        walk_at "rd"
        refine ⟨lst l, _, rfl, hm, by omega, by omega, ?_⟩
        have e1 : ((0 : Int) + (i : Int)).toNat = i := by omega
        rw [e1]
        exact lc_end (by omega) hl2 e2 ⟨ex.mut hD, (range_map _ i).symm⟩
      · obtain ⟨ex, rfl⟩ := hJ
        have e3 : (List.range ((lst l).length : Int).toNat).map (fun i => V.str (S (rot (lst l) i))) = (rots (lst l)).map fun l => V.str (S l) := by
          unfold rots
          rw [List.map_map, Int.toNat_natCast]
          rfl
        rw [e3] at e2
        walk_at "rd"
        exact r_minS (Evl.sq_of e2) (rots_ne hm) fun z hz hle => q z H2 hz hle (ex1.trans ex)
    · walk_at "rd"
      exact ⟨x, rfl, .inr ⟨n, hb, wi⟩⟩
def BtArg (C : Addr) (H : Hp) (y : V) (E : XK) (ok : Int → Prop) : Prop := (∃ n, y = .int n ∧ 0 ≤ n ∧ ok n) ∨ (((∃ n, y = .int n ∧ n < 0) ∨ IntB H y false) ∧ Wish C "beats" y H E)
def spTurned (C CB : Addr) : Sp := fun vs H Q E => ∃ x y, vs = [x, y] ∧ RdArg C H x E fun l => BtArg CB H y E fun n => ∀ H', Ex H H' → Q (.str (S (rot l n.toNat))) H'
abbrev s_turned : Stmt := topS 17
abbrev N_turned : List Str := ["row", "beats"]
theorem sc_turned : FnScope ["row", "beats"] ["row", "beats"] (defScope s_turned) := ⟨rfl, rfl, rfl, by decide +kernel, rfl, by decide +kernel, by decide +kernel⟩
theorem can_turned (T : Bi mg) (F : Defd K mg "turned" s_turned ["row", "beats"]) {A_BadRound : Addr} {A_BadBeats : Addr} (E_BadBeats : Err P w K mg base "BadBeats" A_BadBeats "beats") (C_check_round : Can P w K mg base (L2.CX P w) 3 "check_round" ["row"] (spCheck A_BadRound)) (C_turned_row : Can P w K mg base L2.CX0 1 "turned_row" ["row", "beats"] spTurnedRow) (C_is_integer : Can P w K mg base L2.CX0 1 "is_integer" ["thing"] spIsInt) : Can P w K mg base (L2.CX P w) 4 "turned" ["row", "beats"] (spTurned A_BadRound A_BadBeats) := by
  refine canX F sc_turned (fun vs H Q E h => ?_) (fun f cdv A outer s H vs Q E hr h => ⟨_, (pss_cons (ps_expr (pe_canX C_check_round hr (by decide) rfl (passes_call (takes_of rfl rfl rfl rfl) (fun _ _ _ _ h => h)) (pa_cons (pv 0) pa_nil)))
  (pss_cons (ps_if (PW.pt (pw_or (pt_not (pt_val (pe_can C_is_integer hr (by decide) rfl (pa_cons (pv 1) pa_nil)))) (pw_or1 (pt_cmpR op_lt (pv 1) pe_int (nomark _))))) (pss_one (ps_raise rfl (takes_of rfl rfl rfl rfl) (pmk_err E_BadBeats hr (by decide) rfl (pa_cons (pv 1) pa_nil)))) pss_nil)
  (pss_one (ps_ret (pe_can C_turned_row hr (by decide) rfl (pa_cons (pv 0) (pa_cons (pv 1) pa_nil))))))), ?_⟩)
  · obtain ⟨_, _, rfl, _⟩ := h
    rfl
  · obtain ⟨x, y, rfl, h⟩ := h
    rcases h with ⟨l, rfl, hl, h⟩ | ⟨n, hb, wi⟩
    · have h2 := hl.le
      walk_at "rd"
      refine ⟨_, rfl, .inl ⟨l, rfl, hl, fun H1 ex1 => ?_⟩⟩
      walk_at "rd"
      rcases h with ⟨n, rfl, hn, q⟩ | ⟨hb, wi⟩
      · refine ⟨_, true, rfl, .inl ⟨n, rfl, rfl⟩, ?_⟩
        walk_at "rd"
        refine r_ite (fun h => absurd h (by omega)) (fun _ => ?_)
        walk_at "rd"
        exact ⟨l, n, rfl, hl.ne, by omega, hn, q H1 ex1⟩
      · rcases hb with ⟨n, rfl, hn⟩ | hb
        · refine ⟨_, true, rfl, .inl ⟨n, rfl, rfl⟩, ?_⟩
          walk_at "rd"
          refine r_ite (fun _ => ?_) (fun h => absurd hn h)
          walk_at "rd"
          exact r_mk (wi.ex ex1)
        · refine ⟨_, false, rfl, hb.ex ex1, ?_⟩
          walk_at "rd"
          exact r_mk (wi.ex ex1)
    · walk_at "rd"
      exact ⟨x, rfl, .inr ⟨n, hb, wi⟩⟩
def spAlike (C : Addr) : Sp := fun vs H Q E => ∃ x y, vs = [x, y] ∧ RdArg C H x E fun a => RdArg C H y E fun b => ∀ H', Ex H H' → Q (.bl (SameB a b)) H'
theorem alikeB {a b : List Nat} (ha : a ≠ []) (hb : b ≠ []) : decide (lst a = lst b) = SameB a b := by
  by_cases h : lst a = lst b
  · rw [decide_eq_true h, sameB.mpr ((alike_iff ha hb).mp h)]
  · rw [decide_eq_false h, sameB_false.mpr fun z => h ((alike_iff ha hb).mpr z)]
abbrev s_alike : Stmt := topS 18
abbrev N_alike : List Str := ["first", "second"]
theorem sc_alike : FnScope ["first", "second"] ["first", "second"] (defScope s_alike) := ⟨rfl, rfl, rfl, by decide +kernel, rfl, by decide +kernel, by decide +kernel⟩
theorem can_alike (T : Bi mg) (F : Defd K mg "alike" s_alike ["first", "second"]) {A_BadRound : Addr} (C_check_rounds : Can P w K mg base (L2.CX P w) 4 "check_rounds" ["first", "second"] (spChecks A_BadRound)) (C_shortest_row : Can P w K mg base L2.CX0 1 "shortest_row" ["row"] spShortest) : Can P w K mg base (L2.CX P w) 5 "alike" ["first", "second"] (spAlike A_BadRound) := by
  refine canX F sc_alike (fun vs H Q E h => ?_) (fun f cdv A outer s H vs Q E hr h => ⟨_, (pss_cons (ps_expr (pe_canX C_check_rounds hr (by decide) rfl (passes_call (takes_of rfl rfl rfl rfl) (fun _ _ _ _ h => h)) (pa_cons (pv 0) (pa_cons (pv 1) pa_nil))))
  (pss_one (ps_ret (pe_cmpR op_eq (pe_can C_shortest_row hr (by decide) rfl (pa_cons (pv 0) pa_nil)) (pe_can C_shortest_row hr (by decide) rfl (pa_cons (pv 1) pa_nil)) (nomark _))))), ?_⟩)
  · obtain ⟨_, _, rfl, _⟩ := h
    rfl
  · obtain ⟨x, y, rfl, h⟩ := h
    walk_at "rd"
    refine ⟨x, y, rfl, ?_⟩
    rcases h with ⟨a, rfl, ha, h⟩ | h
    · refine .inl ⟨a, rfl, ha, ?_⟩
      rcases h with ⟨b, rfl, hb, q⟩ | h
      · refine .inl ⟨b, rfl, hb, fun H1 ex1 => ?_⟩
        have la := ha.le
        have lb := hb.le
        walk_at "rd"
        refine ⟨a, rfl, ha.ne, by omega, ?_⟩
        walk_at "rd"
        refine ⟨b, rfl, hb.ne, by omega, ?_⟩
        walk_at "rd"
        rw [alikeB ha.ne hb.ne]
        exact q H1 ex1
      · exact .inr h
    · exact .inr h
def spMoments (C : Addr) : Sp := fun vs H Q E => ∃ x y, vs = [x, y] ∧ RdArg C H x E fun a => RdArg C H y E fun b => ∀ p H', Ex H H' → H' p = some (.tup ((moms a b).map fun (n : Nat) => V.int (n : Int))) → Q (.ref p) H'
abbrev s_moments : Stmt := topS 19
abbrev N_moments : List Str := ["first", "second", "least", "other", "beats"]
theorem sc_moments : FnScope ["first", "second", "least", "other", "beats"] ["first", "second"] (defScope s_moments) := ⟨rfl, rfl, rfl, by decide +kernel, rfl, by decide +kernel, by decide +kernel⟩
theorem can_moments (T : Bi mg) (F : Defd K mg "moments" s_moments ["first", "second"]) {A_BadRound : Addr} (C_check_rounds : Can P w K mg base (L2.CX P w) 4 "check_rounds" ["first", "second"] (spChecks A_BadRound)) (C_shortest_row : Can P w K mg base L2.CX0 1 "shortest_row" ["row"] spShortest) (C_turned_row : Can P w K mg base L2.CX0 1 "turned_row" ["row", "beats"] spTurnedRow) : Can P w K mg base (L2.CX P w) 5 "moments" ["first", "second"] (spMoments A_BadRound) := by
  refine canX F sc_moments (fun vs H Q E h => ?_) (fun f cdv A outer s H vs Q E hr h => ⟨_, (pss_cons (ps_expr (pe_canX C_check_rounds hr (by decide) rfl (passes_call (takes_of rfl rfl rfl rfl) (fun _ _ _ _ h => h)) (pa_cons (pv 0) (pa_cons (pv 1) pa_nil))))
  (pss_cons (ps_asg (pe_tup (pa_cons (pe_can C_shortest_row hr (by decide) rfl (pa_cons (pv 0) pa_nil)) (pa_cons (pe_can C_shortest_row hr (by decide) rfl (pa_cons (pv 1) pa_nil)) pa_nil))) (pg_tup rfl (pgs_cons (pg_name (i := 2) sc_moments.nd rfl (by first | exact Or.inl rfl | exact Or.inr rfl)) (pgs_cons (pg_name (i := 3) sc_moments.nd rfl (by first | exact Or.inl rfl | exact Or.inr rfl)) pgs_nil))))
  (pss_one (ps_ret (pe_tupleOf (by rfl) T.b_tuple (pe_lc (own := [("beats", 4)]) (g := gName 4) rfl sc_moments.nd (pi_range1 rfl T.b_range (pa_cons (pe_callB call_lenS (by rfl) T.b_len boot_len (pa_cons (pv 3) pa_nil)) pa_nil)) (blkOk_by (N := N_moments) (sc := defScope s_moments) (by decide +kernel)) (fun _ _ _ _ _ => pg_name (i := 4) sc_moments.nd rfl (Or.inl rfl)) (fun _ _ _ _ _ => (pts_one (pt_cmpR op_eq (pe_can C_turned_row hr (by decide) rfl (pa_cons (pv 3) (pa_cons (pv 4) pa_nil))) (pv 2) (nomark _)))) (fun _ _ _ _ _ => (pv 4)))))))), ?_⟩)
  · obtain ⟨_, _, rfl, _⟩ := h
    rfl
  · obtain ⟨x, y, rfl, h⟩ := h
    walk_at "rd"
    refine ⟨x, y, rfl, ?_⟩
    rcases h with ⟨a, rfl, ha, h⟩ | h
    · refine .inl ⟨a, rfl, ha, ?_⟩
      rcases h with ⟨b, rfl, hb, q⟩ | h
      · refine .inl ⟨b, rfl, hb, fun H1 ex1 => ?_⟩
        have la := ha.le
        have lb := hb.le
        have p := per_spec hb.ne
        have e0 := lst_len hb.ne
        have hm := lst_ne hb.ne
        walk_at "rd"
        refine ⟨a, rfl, ha.ne, by omega, ?_⟩
        walk_at "rd"
        refine ⟨b, rfl, hb.ne, by omega, ?_⟩
        walk_at "rd"
        refine ⟨small (by show 2 ≤ 1000000; decide), fun tp htp => ?_⟩
        refine r_gtup2 (Evl.st_of upd_same) ?_
        have exG := ex1.trans (Evl.Ex.new (o := .tup [V.str (S (lst a)), V.str (S (lst b))]) htp)
        generalize upd H1 tp (.tup [V.str (S (lst a)), V.str (S (lst b))]) = G at exG ⊢
        walk_at "rd"
        refine lcR (fun D i acc H2 => Ex G H2 ∧ acc = ((List.range i).filter fun n => SameB (rot b n) a).map fun (n : Nat) => V.int (n : Int)) (fun _ => rfl) (fun D hD => ⟨Evl.Ex.new hD, rfl⟩)
          (fun D i H2 acc hD hi e2 hl2 hJ => ?_) (fun D H2 acc hD e2 hJ => ?_)
        · obtain ⟨ex, rfl⟩ := hJ
          walk_at "rd"
          refine ⟨lst b, _, rfl, hm, by omega, by omega, ?_⟩
          have e1 : ((0 : Int) + (i : Int)).toNat = i := by omega
          have e5 : (0 : Int) + (i : Int) = (i : Int) := by omega
          rw [e1]
          walk_at "rd"
          refine r_ite (fun h => ?_) (fun h => ?_)
          · walk_at "rd"
            rw [e5]
            refine lc_end (by omega) hl2 e2 ⟨ex.mut hD, ?_⟩
            rw [filt_yes (f := fun n => SameB (rot b n) a) (sameB.mpr ((moment_iff ha.ne hb.ne i).mp h)), List.map_append]
            rfl
          · refine lc_skip hl2 e2 ⟨ex, ?_⟩
            rw [filt_no (f := fun n => SameB (rot b n) a) (sameB_false.mpr fun z => h ((moment_iff ha.ne hb.ne i).mpr z))]
        · obtain ⟨ex, rfl⟩ := hJ
          walk_at "rd"
          refine r_tupL (Evl.sq_of e2) fun t ht => ?_
          refine q t _ ((exG.trans ex).trans (Evl.Ex.new ht)) ?_
          rw [upd_same, Int.toNat_natCast, e0]
          rfl
      · exact .inr h
    · exact .inr h
end
end Fk

set_option Elab.async false
set_option linter.all false
set_option maxRecDepth 100000
set_option maxHeartbeats 4000000
namespace Fk
open PySem PySem.Spec PyProof.Rows L2 Fg Fm
local macro_rules | `(tactic| walk_at "rd1") => `(tactic| first
  | with_reducible refine r_seq ?_
  | with_reducible refine r_asg ?_
  | with_reducible refine r_gname ?_
  | with_reducible refine r_gsub ?_
  | with_reducible refine r_ret ?_
  | with_reducible refine r_retN ?_
  | with_reducible refine r_next ?_
  | with_reducible refine r_drop ?_
  | with_reducible refine r_ifS ?_
  | with_reducible refine r_if ?_
  | with_reducible refine r_par ?_
  | with_reducible refine r_pair ?_
  | with_reducible refine r_test ?_
  | with_reducible refine r_tB ?_
  | with_reducible refine r_not ?_
  | with_reducible refine r_and ?_
  | with_reducible refine r_or ?_
  | with_reducible refine r_andV ?_
  | with_reducible refine r_orV ?_
  | with_reducible refine r_notV ?_
  | with_reducible refine r_nil ?_
  | with_reducible refine r_cons ?_
  | with_reducible refine r_call ?_
  | with_reducible refine r_callS ?_
  | with_reducible refine r_cb ?_
  | with_reducible refine r_then ?_
  | with_reducible refine r_tup ?_
  | with_reducible refine r_lst ?_
  | with_reducible refine r_sl ?_
  | with_reducible refine r_nopart ?_
  | with_reducible refine r_part ?_
  | with_reducible refine r_lcR1 ?_
  | with_reducible refine r_lcR2 ?_
  | with_reducible refine r_lcL ?_
  | with_reducible refine r_lcT ?_
  | with_reducible refine r_forR1 ?_
  | with_reducible refine r_forR2 ?_
  | with_reducible refine r_forL ?_
  | with_reducible refine r_forT ?_
  | with_reducible refine r_forE ?_
  | with_reducible refine r_strE ?_
  | ((with_reducible refine r_rng1 ?hc ?_); (case hc => omega))
  | ((with_reducible refine r_rng2 ?hc ?_); (case hc => omega))
  | ((with_reducible refine' r_refL ?hc ?_); (case hc => first | assumption | exact Evl.sq_of (by assumption)))
  | ((with_reducible refine' r_refT ?hc ?_); (case hc => first | assumption | exact Evl.st_of (by assumption)))
  | with_reducible refine r_op ?_
  | with_reducible refine r_un ?_
  | with_reducible refine r_chain ?_
  | ((with_reducible refine' r_var ?hv ?_); (case hv => exact rfl))
  | with_reducible refine r_cS ?_
  | with_reducible refine r_cs ?_
  | with_reducible refine r_c ?_
  | with_reducible refine r_yes ?_
  | with_reducible refine r_bm ?_
  | with_reducible refine r_bl ?_
  | with_reducible refine r_in ?_
  | with_reducible refine r_ty ?_
  | with_reducible refine r_I0 ?_
  | ((with_reducible refine r_I ?hc ?_); (case hc => first | assumption | (show (0 : Int) < _; decide) | exact Or.inr ⟨by decide, by decide⟩ | exact Or.inr ⟨by omega, by omega⟩ | exact Or.inl ⟨by decide, by decide⟩ | exact (show CDivW _ _ from ⟨by decide, by decide +kernel⟩) | exact (show CPowW _ _ from ⟨by decide, by decide +kernel⟩) | (show (0 : Int) < _; omega)))
  | with_reducible refine r_U ?_
  | with_reducible refine r_eqI ?_
  | with_reducible refine r_neI ?_
  | with_reducible refine r_eqS ?_
  | with_reducible refine r_neS ?_
  | with_reducible refine r_eqB ?_
  | with_reducible refine r_neB ?_
  | with_reducible refine r_niS ?_
  | with_reducible refine r_inSS ?_
  | ((with_reducible refine r_slSS ?hc ?_); (case hc => first | exact small (by omega) | exact small (by simp; omega)))
  | ((with_reducible refine r_lenS ?hc ?_); (case hc => first | exact small (by omega) | exact small (by simp; omega)))
  | ((with_reducible refine' r_lenL ?hc ?_); (case hc => first | assumption | exact Evl.sq_of (by assumption)))
  | ((with_reducible refine' r_lenT ?hc ?_); (case hc => first | assumption | exact Evl.st_of (by assumption)))
  | ((with_reducible refine' r_ixL ?h1 ?h2 ?h3 ?_); (case h1 => first | assumption | exact Evl.sq_of (by assumption) | exact Evl.sq_of upd_same); (case h2 => first | decide | omega); (case h3 => first | exact rfl | assumption))
  | ((with_reducible refine' r_ixT ?h1 ?h2 ?h3 ?_); (case h1 => first | assumption | exact Evl.st_of (by assumption)); (case h2 => first | decide | omega); (case h3 => first | exact rfl | assumption))
  | with_reducible refine r_T ?_
  | with_reducible refine r_notNn ?_
  | with_reducible refine r_notN_int ?_
  | with_reducible refine r_notN_str ?_
  | with_reducible refine r_notN_ref ?_
  | with_reducible refine r_isNn ?_
  | with_reducible refine r_isN_int ?_
  | with_reducible refine r_isN_str ?_
  | with_reducible refine r_isN_ref ?_
  | ((with_reducible refine' r_isi ?ht ?hk ?_); (case ht => first | exact .base (.int _) | exact .base (.bl _) | exact .base (.str _) | exact .base .non | exact .base (.lst (by assumption)) | exact .base (.tup (by assumption))); (case hk => first | exact kb_int_int | exact kb_int_bool | exact kb_int_str | exact kb_int_list | exact kb_int_tuple | exact kb_bool_int | exact kb_bool_bool | exact kb_bool_str | exact kb_bool_list | exact kb_bool_tuple | exact kb_str_int | exact kb_str_bool | exact kb_str_str | exact kb_str_list | exact kb_str_tuple | exact kb_NoneType_int | exact kb_NoneType_bool | exact kb_NoneType_str | exact kb_NoneType_list | exact kb_NoneType_tuple | exact kb_list_int | exact kb_list_bool | exact kb_list_str | exact kb_list_list | exact kb_list_tuple | exact kb_tuple_int | exact kb_tuple_bool | exact kb_tuple_str | exact kb_tuple_list | exact kb_tuple_tuple))
  | with_reducible refine r_F ?_
  | with_reducible refine r_nT ?_
  | with_reducible refine r_nF ?_
  | with_reducible refine r_mko ?_
  | with_reducible refine r_xf ?_
  | ((with_reducible refine' r_sum ?hc ?_); (case hc => first | assumption | exact Evl.sq_of (by assumption)))
  | ((with_reducible refine' r_setL ?h1 ?h2 ?h3 ?_); (case h1 => first | assumption | exact upd_same); (case h2 => first | decide | omega); (case h3 => first | (show _ < _; decide) | (simp; done)))
  | with_reducible refine r_int ?_
  | with_reducible refine r_abs ?_)
local macro_rules | `(tactic| walk_at "rd") => `(tactic| repeat (walk_at "rd1"))

section
variable {P : Program} {w : World} {K : PySem.W.Frag} {mg : Str → Option Value} {base : Heap}
abbrev s_l_is_int : Stmt := topS 24
abbrev N_l_is_int : List Str := ["_law_thing"]
theorem sc_l_is_int : FnScope ["_law_thing"] ["_law_thing"] (defScope s_l_is_int) := ⟨rfl, rfl, rfl, by decide +kernel, rfl, by decide +kernel, by decide +kernel⟩
theorem can_l_is_int (T : Bi mg) (F : Defd K mg "_law_is_int" s_l_is_int ["_law_thing"]) : Can P w K mg base L2.CX0 1 "_law_is_int" ["_law_thing"] spIsInt := by
  refine can0 F sc_l_is_int (fun vs H Q E h => ?_) (fun f cdv A outer s H vs Q E hr h => ⟨_, (pss_one (ps_ret (pe_and (pe_callB call_isi (by rfl) T.b_isinstance boot_isinstance (pa_cons (pv 0) (pa_cons (pe_bltn (v := .ty "int") (by rfl) T.b_int boot_int rfl) pa_nil))) (pe_one (pe_not (pe_callB call_isi (by rfl) T.b_isinstance boot_isinstance (pa_cons (pv 0) (pa_cons (pe_bltn (v := .ty "bool") (by rfl) T.b_bool boot_bool rfl) pa_nil)))))))), ?_⟩)
  · obtain ⟨_, _, rfl, _⟩ := h
    rfl
  · obtain ⟨x, b, rfl, hb, q⟩ := h
    rcases hb with ⟨i, rfl, rfl⟩ | ⟨⟨k, rfl⟩, rfl⟩ | ⟨rfl, rfl⟩ | ⟨⟨l, rfl⟩, rfl⟩ | ⟨⟨a, xs, rfl, h⟩, rfl⟩ | ⟨⟨a, xs, rfl, h⟩, rfl⟩
    all_goals
      walk_at "rd"
      exact q
def spCall (C CB : Addr) : Sp := fun vs H Q E => ∃ (k : Int) (x y : V), vs = [.int k, x, y] ∧ ((k = 0 ∧ spLeastRound C [x] H Q E) ∨ (k = 1 ∧ spRhythm C [x] H Q E) ∨ (k = 2 ∧ spTurned C CB [x, y] H Q E) ∨ (k = 3 ∧ spAlike C [x, y] H Q E) ∨ (k = 4 ∧ spMoments C [x, y] H Q E))
theorem spCall_mono {C CB : Addr} {vs : List V} {H : Hp} {Q Q' : VK} {E E' : XK} (hq : ∀ v H, Q v H → Q' v H) (he : ∀ c d H, E c d H → E' c d H) (h : spCall C CB vs H Q E) : spCall C CB vs H Q' E' := by
  obtain ⟨k, x, y, rfl, h⟩ := h
  refine ⟨k, x, y, rfl, ?_⟩
  rcases h with ⟨e, x', e2, h⟩ | ⟨e, x', e2, h⟩ | ⟨e, x', y', e2, h⟩ | ⟨e, x', y', e2, h⟩ | ⟨e, x', y', e2, h⟩
  · exact .inl ⟨e, x', e2, h.imp (fun l _ z H' ex => hq _ _ (z H' ex)) he⟩
  · exact .inr (.inl ⟨e, x', e2, h.imp (fun l _ z w H' a b ex => hq _ _ (z w H' a b ex)) he⟩)
  · refine .inr (.inr (.inl ⟨e, x', y', e2, h.imp (fun l _ z => ?_) he⟩))
    rcases z with ⟨n, z1, z2, z3⟩ | ⟨z1, z2⟩
    · exact .inl ⟨n, z1, z2, fun H' ex => hq _ _ (z3 H' ex)⟩
    · exact .inr ⟨z1, fun d H' a b c => he _ _ _ (z2 d H' a b c)⟩
  · exact .inr (.inr (.inr (.inl ⟨e, x', y', e2, h.imp (fun l _ z => z.imp (fun l _ z H' ex => hq _ _ (z H' ex)) he) he⟩)))
  · exact .inr (.inr (.inr (.inr ⟨e, x', y', e2, h.imp (fun l _ z => z.imp (fun l _ z p H' ex e => hq _ _ (z p H' ex e)) he) he⟩)))
abbrev s_l_call : Stmt := topS 35
abbrev N_l_call : List Str := ["_law_kind", "_law_first", "_law_second"]
theorem sc_l_call : FnScope ["_law_kind", "_law_first", "_law_second"] ["_law_kind", "_law_first", "_law_second"] (defScope s_l_call) := ⟨rfl, rfl, rfl, by decide +kernel, rfl, by decide +kernel, by decide +kernel⟩
theorem can_l_call (T : Bi mg) (F : Defd K mg "_law_call" s_l_call ["_law_kind", "_law_first", "_law_second"]) {A_BadRound A_BadBeats : Addr} (C_least_round : Can P w K mg base (L2.CX P w) 4 "least_round" ["row"] (spLeastRound A_BadRound)) (C_rhythm : Can P w K mg base (L2.CX P w) 4 "rhythm" ["row"] (spRhythm A_BadRound)) (C_turned : Can P w K mg base (L2.CX P w) 4 "turned" ["row", "beats"] (spTurned A_BadRound A_BadBeats)) (C_alike : Can P w K mg base (L2.CX P w) 5 "alike" ["first", "second"] (spAlike A_BadRound)) (C_moments : Can P w K mg base (L2.CX P w) 5 "moments" ["first", "second"] (spMoments A_BadRound)) : Can P w K mg base (L2.CX P w) 6 "_law_call" ["_law_kind", "_law_first", "_law_second"] (spCall A_BadRound A_BadBeats) := by
  refine canX F sc_l_call (fun vs H Q E h => ?_) (fun f cdv A outer s H vs Q E hr h => ⟨_, (pss_cons (ps_if (pt_cmpR op_eq (pv 0) pe_int (nomark _)) (pss_one (ps_ret (pe_canX C_least_round hr (by decide) rfl (passes_call (takes_of rfl rfl rfl rfl) (fun _ _ _ _ h => h)) (pa_cons (pv 1) pa_nil)))) pss_nil)
  (pss_cons (ps_if (pt_cmpR op_eq (pv 0) pe_int (nomark _)) (pss_one (ps_ret (pe_canX C_rhythm hr (by decide) rfl (passes_call (takes_of rfl rfl rfl rfl) (fun _ _ _ _ h => h)) (pa_cons (pv 1) pa_nil)))) pss_nil)
  (pss_cons (ps_if (pt_cmpR op_eq (pv 0) pe_int (nomark _)) (pss_one (ps_ret (pe_canX C_turned hr (by decide) rfl (passes_call (takes_of rfl rfl rfl rfl) (fun _ _ _ _ h => h)) (pa_cons (pv 1) (pa_cons (pv 2) pa_nil))))) pss_nil)
  (pss_cons (ps_if (pt_cmpR op_eq (pv 0) pe_int (nomark _)) (pss_one (ps_ret (pe_canX C_alike hr (by decide) rfl (passes_call (takes_of rfl rfl rfl rfl) (fun _ _ _ _ h => h)) (pa_cons (pv 1) (pa_cons (pv 2) pa_nil))))) pss_nil)
  (pss_one (ps_ret (pe_canX C_moments hr (by decide) rfl (passes_call (takes_of rfl rfl rfl rfl) (fun _ _ _ _ h => h)) (pa_cons (pv 1) (pa_cons (pv 2) pa_nil))))))))), ?_⟩)
  · obtain ⟨_, _, _, rfl, _⟩ := h
    rfl
  · obtain ⟨k, x, y, rfl, h⟩ := h
    rcases h with ⟨rfl, h⟩ | ⟨rfl, h⟩ | ⟨rfl, h⟩ | ⟨rfl, h⟩ | ⟨rfl, h⟩
    · walk_at "rd"
      refine r_ite (fun _ => ?_) (fun z => absurd rfl z)
      walk_at "rd"
      exact h
    · walk_at "rd"
      refine r_ite (fun z => absurd z (by decide)) (fun _ => ?_)
      walk_at "rd"
      refine r_ite (fun _ => ?_) (fun z => absurd rfl z)
      walk_at "rd"
      exact h
    · walk_at "rd"
      refine r_ite (fun z => absurd z (by decide)) (fun _ => ?_)
      walk_at "rd"
      refine r_ite (fun z => absurd z (by decide)) (fun _ => ?_)
      walk_at "rd"
      refine r_ite (fun _ => ?_) (fun z => absurd rfl z)
      walk_at "rd"
      exact h
    · walk_at "rd"
      refine r_ite (fun z => absurd z (by decide)) (fun _ => ?_)
      walk_at "rd"
      refine r_ite (fun z => absurd z (by decide)) (fun _ => ?_)
      walk_at "rd"
      refine r_ite (fun z => absurd z (by decide)) (fun _ => ?_)
      walk_at "rd"
      refine r_ite (fun _ => ?_) (fun z => absurd rfl z)
      walk_at "rd"
      exact h
    · walk_at "rd"
      refine r_ite (fun z => absurd z (by decide)) (fun _ => ?_)
      walk_at "rd"
      refine r_ite (fun z => absurd z (by decide)) (fun _ => ?_)
      walk_at "rd"
      refine r_ite (fun z => absurd z (by decide)) (fun _ => ?_)
      walk_at "rd"
      refine r_ite (fun z => absurd z (by decide)) (fun _ => ?_)
      walk_at "rd"
      exact h
abbrev wTold : List Nat := [116, 111, 108, 100]
abbrev wRound : List Nat := [114, 111, 117, 110, 100]
abbrev wBeats : List Nat := [98, 101, 97, 116, 115]
def RetT (w : List Nat) (v : V) (H : Hp) (Q : VK) : Prop := ∀ t H', Ex H H' → H' t = some (.tup [.str (S w), v]) → Q (.ref t) H'
def eTold (C CB : Addr) (Q : VK) : XK := fun cls d H1 => (cls = .ref C ∧ ∃ dd v, d = some dd ∧ H1 dd = some (.xd [("number", v)]) ∧ RetT wRound v H1 Q) ∨ (cls = .ref CB ∧ ∃ dd v, d = some dd ∧ H1 dd = some (.xd [("beats", v)]) ∧ RetT wBeats v H1 Q)
def spTold (C CB : Addr) : Sp := fun vs H Q _ => vs.length = 3 ∧ spCall C CB vs H (fun v H1 => RetT wTold v H1 Q) (eTold C CB Q)
/-- what the classes of the errors say of one another -/
structure Two (K : PySem.W.Frag) (C CB G : Addr) : Prop where
  xm1 : PySem.W.exmOne K (.ref C) (.ref G) = some true
  xm2 : PySem.W.exmOne K (.ref CB) (.ref G) = some true
  k11 : PySem.W.kitOne K (.ref C) (.ref C) = some true
  k12 : PySem.W.kitOne K (.ref C) (.ref CB) = some false
  k1v : PySem.W.kitOne K (.ref C) (.type "ValueError") = some true
  k21 : PySem.W.kitOne K (.ref CB) (.ref C) = some false
  k22 : PySem.W.kitOne K (.ref CB) (.ref CB) = some true
  k2v : PySem.W.kitOne K (.ref CB) (.type "ValueError") = some true
theorem r_isX {K : PySem.W.Frag} {a D C dd : Addr} {fs : List (Str × V)} {b : Bool} {H : Hp} {Q : VK} (c : ExcC K D) (k : PySem.W.kitOne K (.ref D) (.ref C) = some b) (h : H dd = some (.xd fs)) (q : Q (.bl b) H) : rIsX K a (.ref D) (some dd) [.ref a, .ref C] H Q :=
  ⟨D, .ref C, _, b, dd, fs, rfl, fun u r => r, rfl, c, k, rfl, h, q⟩
theorem r_isXT {K : PySem.W.Frag} {a D dd : Addr} {n : String} {fs : List (Str × V)} {b : Bool} {H : Hp} {Q : VK} (c : ExcC K D) (k : PySem.W.kitOne K (.ref D) (.type n) = some b) (h : H dd = some (.xd fs)) (q : Q (.bl b) H) : rIsX K a (.ref D) (some dd) [.ref a, .ty n] H Q :=
  ⟨D, .ty n, _, b, dd, fs, rfl, fun u r => r, rfl, c, k, rfl, h, q⟩
theorem r_eqB3 {K : PySem.W.Frag} {H : Hp} {Q : VK} {p r : Addr} {a b c x y z : Bool} (h : H p = some (.lst [.bl a, .bl b, .bl c])) (k : H r = some (.lst [.bl x, .bl y, .bl z])) (q : Q (.bl (decide (a = x ∧ b = y ∧ c = z))) H) : rEqD K (.ref p) (.ref r) H Q :=
  ⟨.list [.bool a, .bool b, .bool c], .list [.bool x, .bool y, .bool z], .lst (Evl.sq_of h) (.cons (.bl _) (.cons (.bl _) (.cons (.bl _) .nil))), .lst (Evl.sq_of k) (.cons (.bl _) (.cons (.bl _) (.cons (.bl _) .nil))), rfl, rfl, by
    have e : PyData.eqv (.list [.bool a, .bool b, .bool c]) (.list [.bool x, .bool y, .bool z]) = decide (a = x ∧ b = y ∧ c = z) := by
      cases a <;> cases b <;> cases c <;> cases x <;> cases y <;> cases z <;> rfl
    rw [e]; exact q⟩
abbrev s_l_told : Stmt := topS 36
abbrev N_l_told : List Str := ["_law_kind", "_law_first", "_law_second", "e", "_law_hits"]
theorem sc_l_told : FnScope ["_law_kind", "_law_first", "_law_second", "e", "_law_hits"] ["_law_kind", "_law_first", "_law_second"] (defScope s_l_told) := ⟨rfl, rfl, rfl, by decide +kernel, rfl, by decide +kernel, by decide +kernel⟩
theorem can_l_told (T : Bi mg) (F : Defd K mg "_law_told" s_l_told ["_law_kind", "_law_first", "_law_second"]) {A_BadRound A_BadBeats A_GlimError : Addr} (E_BadRound : Err P w K mg base "BadRound" A_BadRound "number") (E_BadBeats : Err P w K mg base "BadBeats" A_BadBeats "beats") (g_GlimError : mg "GlimError" = some (.ref A_GlimError)) (W2 : Two K A_BadRound A_BadBeats A_GlimError) (C_l_call : Can P w K mg base (L2.CX P w) 6 "_law_call" ["_law_kind", "_law_first", "_law_second"] (spCall A_BadRound A_BadBeats)) : Can P w K mg base L2.CX0 7 "_law_told" ["_law_kind", "_law_first", "_law_second"] (spTold A_BadRound A_BadBeats) := by
  refine can0 F sc_l_told (fun vs H Q E h => ?_) (fun f cdv A outer s H vs Q E hr h => ⟨_, (pss_cons (ps_try_as (i := 3) (Wout := fun _ _ _ _ => False) rfl rfl sc_l_told.nd rfl rfl ⟨rfl, by decide, Or.inl g_GlimError⟩ takes0
    (fun W pn xe tk _ => (pss_one (ps_ret (pe_tup (pa_cons (pe_strL [116, 111, 108, 100] (by decide +kernel)) (pa_cons (pe_canS C_l_call hr (by decide) rfl (fun σ => passAt tk σ) (pa_cons (pv 0) (pa_cons (pv 1) (pa_cons (pv 2) pa_nil)))) pa_nil))))))
    (fun a oe cls d pn hz hf => (pss_cons (ps_set (i := 4) sc_l_told.nd rfl (by first | exact Or.inl rfl | exact Or.inr rfl) (pe_lst (pa_cons (pe_callB (call_isX hz hf) (by rfl) T.b_isinstance boot_isinstance (pa_cons (pv 3) (pa_cons (pe_glob (v := .ref A_BadRound) rfl E_BadRound.g rfl) pa_nil))) (pa_cons (pe_callB (call_isX hz hf) (by rfl) T.b_isinstance boot_isinstance (pa_cons (pv 3) (pa_cons (pe_glob (v := .ref A_BadBeats) rfl E_BadBeats.g rfl) pa_nil))) (pa_cons (pe_callB (call_isX hz hf) (by rfl) T.b_isinstance boot_isinstance (pa_cons (pv 3) (pa_cons (pe_bltn (v := .ty "ValueError") (by rfl) T.b_ValueError (by decide +kernel) rfl) pa_nil))) pa_nil)))))
  (pss_cons (ps_if (pt_cmpR (op_eqK (K := K) hr) (pv 4) (pe_lst (pa_cons pe_bl (pa_cons pe_bl (pa_cons pe_bl pa_nil)))) (nomark _)) (pss_one (ps_ret (pe_tup (pa_cons (pe_strL [114, 111, 117, 110, 100] (by decide +kernel)) (pa_cons (pe_xf E_BadRound.xf E_BadRound.noN hz hf (pv 3)) pa_nil))))) pss_nil)
  (pss_one (ps_if (pt_cmpR (op_eqK (K := K) hr) (pv 4) (pe_lst (pa_cons pe_bl (pa_cons pe_bl (pa_cons pe_bl pa_nil)))) (nomark _)) (pss_one (ps_ret (pe_tup (pa_cons (pe_strL [98, 101, 97, 116, 115] (by decide +kernel)) (pa_cons (pe_xf E_BadBeats.xf E_BadBeats.noN hz hf (pv 3)) pa_nil))))) pss_nil))))))
  (pss_one (ps_ret (pe_tup (pa_cons (pe_strL [110, 111, 110, 101] (by decide +kernel)) (pa_cons pe_non pa_nil)))))), ?_⟩)
  · obtain ⟨z, _⟩ := h
    exact z
  · obtain ⟨hl, h⟩ := h
    obtain ⟨k, x, y, e, _⟩ := id h
    subst e
    walk_at "rd"
    refine spCall_mono (fun v H1 hv => ?_) (fun cls d H1 he => ?_) h
    · walk_at "rd"
      exact ⟨small (by show 2 ≤ 1000000; decide), fun p hp => hv p _ (Evl.Ex.new hp) upd_same⟩
    · rcases he with ⟨rfl, dd, v, rfl, hdd, hq⟩ | ⟨rfl, dd, v, rfl, hdd, hq⟩
      · refine r_wAs W2.xm1 fun a0 ha0 => ?_
        walk_at "rd"
        refine r_isX E_BadRound.xc W2.k11 hdd ?_
        walk_at "rd"
        refine r_isX E_BadRound.xc W2.k12 hdd ?_
        walk_at "rd"
        refine r_isXT E_BadRound.xc W2.k1v hdd ?_
        walk_at "rd"
        refine ⟨small (by show 3 ≤ 1000000; decide), fun p1 hp1 => ?_⟩
        have ex1 : Ex H1 (upd H1 p1 (.lst [.bl true, .bl false, .bl true])) := Evl.Ex.new hp1
        have g1 : (upd H1 p1 (.lst [.bl true, .bl false, .bl true])) p1 = some (.lst [.bl true, .bl false, .bl true]) := upd_same
        generalize upd H1 p1 (.lst [.bl true, .bl false, .bl true]) = G1 at ex1 g1 ⊢
        walk_at "rd"
        refine ⟨small (by show 3 ≤ 1000000; decide), fun p2 hp2 => ?_⟩
        have ex2 := Evl.Ex.new (o := .lst [.bl true, .bl false, .bl true]) hp2
        refine r_eqB3 (ex2 _ _ g1) upd_same ?_
        walk_at "rd"
        refine r_ite (fun _ => ?_) (fun z => absurd (by decide) z)
        walk_at "rd"
        refine ⟨rfl, rfl, dd, _, v, rfl, ex2 _ _ (ex1 _ _ hdd), rfl, ?_⟩
        walk_at "rd"
        refine ⟨small (by show 2 ≤ 1000000; decide), fun p3 hp3 => ?_⟩
        exact hq p3 _ ((ex1.trans ex2).trans (Evl.Ex.new hp3)) upd_same

      · refine r_wAs W2.xm2 fun a0 ha0 => ?_
        walk_at "rd"
        refine r_isX E_BadBeats.xc W2.k21 hdd ?_
        walk_at "rd"
        refine r_isX E_BadBeats.xc W2.k22 hdd ?_
        walk_at "rd"
        refine r_isXT E_BadBeats.xc W2.k2v hdd ?_
        walk_at "rd"
        refine ⟨small (by show 3 ≤ 1000000; decide), fun p1 hp1 => ?_⟩
        have ex1 : Ex H1 (upd H1 p1 (.lst [.bl false, .bl true, .bl true])) := Evl.Ex.new hp1
        have g1 : (upd H1 p1 (.lst [.bl false, .bl true, .bl true])) p1 = some (.lst [.bl false, .bl true, .bl true]) := upd_same
        generalize upd H1 p1 (.lst [.bl false, .bl true, .bl true]) = G1 at ex1 g1 ⊢
        walk_at "rd"
        refine ⟨small (by show 3 ≤ 1000000; decide), fun p2 hp2 => ?_⟩
        have ex2 := Evl.Ex.new (o := .lst [.bl true, .bl false, .bl true]) hp2
        refine r_eqB3 (ex2 _ _ g1) upd_same ?_
        walk_at "rd"
        refine r_ite (fun z => absurd z (by decide)) (fun _ => ?_)
        have g2 := ex2 _ _ g1
        generalize upd G1 p2 (.lst [.bl true, .bl false, .bl true]) = G2 at ex2 g2 ⊢
        walk_at "rd"
        refine ⟨small (by show 3 ≤ 1000000; decide), fun p4 hp4 => ?_⟩
        have ex4 := Evl.Ex.new (o := .lst [.bl false, .bl true, .bl true]) hp4
        refine r_eqB3 (ex4 _ _ g2) upd_same ?_
        walk_at "rd"
        refine r_ite (fun _ => ?_) (fun z => absurd (by decide) z)
        walk_at "rd"
        refine ⟨rfl, rfl, dd, _, v, rfl, ex4 _ _ (ex2 _ _ (ex1 _ _ hdd)), rfl, ?_⟩
        walk_at "rd"
        refine ⟨small (by show 2 ≤ 1000000; decide), fun p3 hp3 => ?_⟩
        exact hq p3 _ (((ex1.trans ex2).trans ex4).trans (Evl.Ex.new hp3)) upd_same

end
end Fk

set_option Elab.async false
set_option linter.all false
set_option maxRecDepth 100000
set_option maxHeartbeats 4000000
namespace Fk
open PySem PySem.Spec PyProof.Rows L2 Fg Fm
local macro_rules | `(tactic| walk_at "rd1") => `(tactic| first
  | with_reducible refine r_seq ?_
  | with_reducible refine r_asg ?_
  | with_reducible refine r_gname ?_
  | with_reducible refine r_gsub ?_
  | with_reducible refine r_ret ?_
  | with_reducible refine r_retN ?_
  | with_reducible refine r_next ?_
  | with_reducible refine r_drop ?_
  | with_reducible refine r_ifS ?_
  | with_reducible refine r_if ?_
  | with_reducible refine r_par ?_
  | with_reducible refine r_pair ?_
  | with_reducible refine r_test ?_
  | with_reducible refine r_tB ?_
  | with_reducible refine r_not ?_
  | with_reducible refine r_and ?_
  | with_reducible refine r_or ?_
  | with_reducible refine r_andV ?_
  | with_reducible refine r_orV ?_
  | with_reducible refine r_notV ?_
  | with_reducible refine r_nil ?_
  | with_reducible refine r_cons ?_
  | with_reducible refine r_call ?_
  | with_reducible refine r_callS ?_
  | with_reducible refine r_cb ?_
  | with_reducible refine r_then ?_
  | with_reducible refine r_tup ?_
  | with_reducible refine r_lst ?_
  | with_reducible refine r_sl ?_
  | with_reducible refine r_nopart ?_
  | with_reducible refine r_part ?_
  | with_reducible refine r_lcR1 ?_
  | with_reducible refine r_lcR2 ?_
  | with_reducible refine r_lcL ?_
  | with_reducible refine r_lcT ?_
  | with_reducible refine r_forR1 ?_
  | with_reducible refine r_forR2 ?_
  | with_reducible refine r_forL ?_
  | with_reducible refine r_forT ?_
  | with_reducible refine r_forE ?_
  | with_reducible refine r_strE ?_
  | ((with_reducible refine r_rng1 ?hc ?_); (case hc => omega))
  | ((with_reducible refine r_rng2 ?hc ?_); (case hc => omega))
  | ((with_reducible refine' r_refL ?hc ?_); (case hc => first | assumption | exact Evl.sq_of (by assumption)))
  | ((with_reducible refine' r_refT ?hc ?_); (case hc => first | assumption | exact Evl.st_of (by assumption)))
  | with_reducible refine r_op ?_
  | with_reducible refine r_un ?_
  | with_reducible refine r_chain ?_
  | ((with_reducible refine' r_var ?hv ?_); (case hv => exact rfl))
  | with_reducible refine r_cS ?_
  | with_reducible refine r_cs ?_
  | with_reducible refine r_c ?_
  | with_reducible refine r_yes ?_
  | with_reducible refine r_bm ?_
  | with_reducible refine r_bl ?_
  | with_reducible refine r_in ?_
  | with_reducible refine r_ty ?_
  | with_reducible refine r_I0 ?_
  | ((with_reducible refine r_I ?hc ?_); (case hc => first | assumption | (show (0 : Int) < _; decide) | exact Or.inr ⟨by decide, by decide⟩ | exact Or.inr ⟨by omega, by omega⟩ | exact Or.inl ⟨by decide, by decide⟩ | exact (show CDivW _ _ from ⟨by decide, by decide +kernel⟩) | exact (show CPowW _ _ from ⟨by decide, by decide +kernel⟩) | (show (0 : Int) < _; omega)))
  | with_reducible refine r_U ?_
  | with_reducible refine r_eqI ?_
  | with_reducible refine r_neI ?_
  | with_reducible refine r_eqS ?_
  | with_reducible refine r_neS ?_
  | with_reducible refine r_eqB ?_
  | with_reducible refine r_neB ?_
  | with_reducible refine r_niS ?_
  | with_reducible refine r_inSS ?_
  | ((with_reducible refine r_slSS ?hc ?_); (case hc => first | exact small (by omega) | exact small (by simp; omega)))
  | ((with_reducible refine r_lenS ?hc ?_); (case hc => first | exact small (by omega) | exact small (by simp; omega)))
  | ((with_reducible refine' r_lenL ?hc ?_); (case hc => first | assumption | exact Evl.sq_of (by assumption)))
  | ((with_reducible refine' r_lenT ?hc ?_); (case hc => first | assumption | exact Evl.st_of (by assumption)))
  | ((with_reducible refine' r_ixL ?h1 ?h2 ?h3 ?_); (case h1 => first | assumption | exact Evl.sq_of (by assumption) | exact Evl.sq_of upd_same); (case h2 => first | decide | omega); (case h3 => first | exact rfl | assumption))
  | ((with_reducible refine' r_ixT ?h1 ?h2 ?h3 ?_); (case h1 => first | assumption | exact Evl.st_of (by assumption)); (case h2 => first | decide | omega); (case h3 => first | exact rfl | assumption))
  | with_reducible refine r_T ?_
  | with_reducible refine r_notNn ?_
  | with_reducible refine r_notN_int ?_
  | with_reducible refine r_notN_str ?_
  | with_reducible refine r_notN_ref ?_
  | with_reducible refine r_isNn ?_
  | with_reducible refine r_isN_int ?_
  | with_reducible refine r_isN_str ?_
  | with_reducible refine r_isN_ref ?_
  | ((with_reducible refine' r_isi ?ht ?hk ?_); (case ht => first | exact .base (.int _) | exact .base (.bl _) | exact .base (.str _) | exact .base .non | exact .base (.lst (by assumption)) | exact .base (.tup (by assumption))); (case hk => first | exact kb_int_int | exact kb_int_bool | exact kb_int_str | exact kb_int_list | exact kb_int_tuple | exact kb_bool_int | exact kb_bool_bool | exact kb_bool_str | exact kb_bool_list | exact kb_bool_tuple | exact kb_str_int | exact kb_str_bool | exact kb_str_str | exact kb_str_list | exact kb_str_tuple | exact kb_NoneType_int | exact kb_NoneType_bool | exact kb_NoneType_str | exact kb_NoneType_list | exact kb_NoneType_tuple | exact kb_list_int | exact kb_list_bool | exact kb_list_str | exact kb_list_list | exact kb_list_tuple | exact kb_tuple_int | exact kb_tuple_bool | exact kb_tuple_str | exact kb_tuple_list | exact kb_tuple_tuple))
  | with_reducible refine r_F ?_
  | with_reducible refine r_nT ?_
  | with_reducible refine r_nF ?_
  | with_reducible refine r_mko ?_
  | with_reducible refine r_xf ?_
  | ((with_reducible refine' r_sum ?hc ?_); (case hc => first | assumption | exact Evl.sq_of (by assumption)))
  | ((with_reducible refine' r_setL ?h1 ?h2 ?h3 ?_); (case h1 => first | assumption | exact upd_same); (case h2 => first | decide | omega); (case h3 => first | (show _ < _; decide) | (simp; done)))
  | with_reducible refine r_int ?_
  | with_reducible refine r_abs ?_)
local macro_rules | `(tactic| walk_at "rd") => `(tactic| repeat (walk_at "rd1"))

section
variable {P : Program} {w : World} {K : PySem.W.Frag} {mg : Str → Option Value} {base : Heap}
def spTextTold : Sp := fun vs H Q _ => ∃ (t : Addr) (v m : List Nat), vs = [.ref t, .str (S m)] ∧ H t = some (.tup [.str (S wTold), .str (S v)]) ∧ Q (.bl (decide (v = m))) H
abbrev s_l_text_told : Stmt := topS 37
abbrev N_l_text_told : List Str := ["_law_told_here", "_law_due"]
theorem sc_l_text_told : FnScope ["_law_told_here", "_law_due"] ["_law_told_here", "_law_due"] (defScope s_l_text_told) := ⟨rfl, rfl, rfl, by decide +kernel, rfl, by decide +kernel, by decide +kernel⟩
theorem can_l_text_told (T : Bi mg) (F : Defd K mg "_law_text_told" s_l_text_told ["_law_told_here", "_law_due"]) : Can P w K mg base L2.CX0 1 "_law_text_told" ["_law_told_here", "_law_due"] spTextTold := by
  refine can0 F sc_l_text_told (fun vs H Q E h => ?_) (fun f cdv A outer s H vs Q E hr h => ⟨_, (pss_one (ps_ret (pe_and (pe_cmpR op_eq (pe_ix ix_tup (pv 0) pe_int (fun _ _ => rfl)) (pe_strL [116, 111, 108, 100] (by decide +kernel)) (nomark _)) (pe_and (pe_callB call_isi (by rfl) T.b_isinstance boot_isinstance (pa_cons (pe_ix ix_tup (pv 0) pe_int (fun _ _ => rfl)) (pa_cons (pe_bltn (v := .ty "str") (by rfl) T.b_str boot_str rfl) pa_nil))) (pe_one (pe_cmpR op_eq (pe_ix ix_tup (pv 0) pe_int (fun _ _ => rfl)) (pv 1) (nomark _))))))), ?_⟩)
  · obtain ⟨_, _, _, rfl, _⟩ := h
    rfl
  · obtain ⟨t, v, m, rfl, ht, q⟩ := h
    walk_at "rd"
    refine r_ite (fun _ => ?_) (fun z => absurd rfl z)
    walk_at "rd"
    exact q
def spPairRight : Sp := fun vs H Q _ => ∃ (a b : List Nat) (n : Int), vs = [.str (S a), .str (S b), .int n] ∧ Rnd a ∧ Rnd b ∧ 0 ≤ n ∧ ∀ H', Ex H H' → Q (.bl true) H'
theorem all_true (n : Nat) : (List.replicate n true).all id = true := by
  induction n with
  | zero => rfl
  | succ n ih => rw [List.replicate_succ, List.all_cons, ih]; rfl
abbrev s_l_pair_right : Stmt := topS 38
abbrev N_l_pair_right : List Str := ["_law_first", "_law_second", "_law_many", "_law_told_here", "_law_due", "_law_number_here"]
theorem sc_l_pair_right : FnScope ["_law_first", "_law_second", "_law_many", "_law_told_here", "_law_due", "_law_number_here"] ["_law_first", "_law_second", "_law_many"] (defScope s_l_pair_right) := ⟨rfl, rfl, rfl, by decide +kernel, rfl, by decide +kernel, by decide +kernel⟩
theorem can_l_pair_right (T : Bi mg) (F : Defd K mg "_law_pair_right" s_l_pair_right ["_law_first", "_law_second", "_law_many"]) {A_BadRound A_BadBeats : Addr} (C_l_told : Can P w K mg base L2.CX0 7 "_law_told" ["_law_kind", "_law_first", "_law_second"] (spTold A_BadRound A_BadBeats)) (C_l_text_told : Can P w K mg base L2.CX0 1 "_law_text_told" ["_law_told_here", "_law_due"] spTextTold) (C_l_least : Can P w K mg base L2.CX0 2 "_law_least" ["_law_row"] spLeast) (C_l_rhythm : Can P w K mg base L2.CX0 3 "_law_rhythm" ["_law_row"] spLRhythm) (C_l_later : Can P w K mg base L2.CX0 1 "_law_later" ["_law_row", "_law_many"] spLater) (C_l_same_for_ever : Can P w K mg base L2.CX0 1 "_law_same_for_ever" ["_law_first", "_law_second"] spSame) (C_l_moments : Can P w K mg base L2.CX0 3 "_law_moments" ["_law_first", "_law_second"] spLMoments) (C_l_is_int : Can P w K mg base L2.CX0 1 "_law_is_int" ["_law_thing"] spIsInt) : Can P w K mg base L2.CX0 8 "_law_pair_right" ["_law_first", "_law_second", "_law_many"] spPairRight := by
  refine can0 F sc_l_pair_right (fun vs H Q E h => ?_) (fun f cdv A outer s H vs Q E hr h => ⟨_, (pss_cons (ps_if (pt_not (pt_val (pe_can C_l_text_told hr (by decide) rfl (pa_cons (pe_can C_l_told hr (by decide) rfl (pa_cons pe_int (pa_cons (pv 0) (pa_cons (pe_strL [] (by decide +kernel)) pa_nil)))) (pa_cons (pe_can C_l_least hr (by decide) rfl (pa_cons (pv 0) pa_nil)) pa_nil))))) (pss_one (ps_ret pe_bl)) pss_nil)
  (pss_cons (ps_if (pt_not (pt_val (pe_can C_l_text_told hr (by decide) rfl (pa_cons (pe_can C_l_told hr (by decide) rfl (pa_cons pe_int (pa_cons (pv 0) (pa_cons (pe_strL [] (by decide +kernel)) pa_nil)))) (pa_cons (pe_can C_l_rhythm hr (by decide) rfl (pa_cons (pv 0) pa_nil)) pa_nil))))) (pss_one (ps_ret pe_bl)) pss_nil)
  (pss_cons (ps_if (pt_not (pt_val (pe_can C_l_text_told hr (by decide) rfl (pa_cons (pe_can C_l_told hr (by decide) rfl (pa_cons pe_int (pa_cons (pv 0) (pa_cons (pv 2) pa_nil)))) (pa_cons (pe_can C_l_later hr (by decide) rfl (pa_cons (pv 0) (pa_cons (pv 2) pa_nil))) pa_nil))))) (pss_one (ps_ret pe_bl)) pss_nil)
  (pss_cons (ps_set (i := 3) sc_l_pair_right.nd rfl (by first | exact Or.inl rfl | exact Or.inr rfl) (pe_can C_l_told hr (by decide) rfl (pa_cons pe_int (pa_cons (pv 0) (pa_cons (pv 1) pa_nil)))))
  (pss_cons (ps_if (PW.pt (pw_or (pt_cmpR op_ne (pe_ix ix_tup (pv 3) pe_int (fun _ _ => rfl)) (pe_strL [116, 111, 108, 100] (by decide +kernel)) (nomark _)) (pw_or (pt_not (pt_val (pe_callB call_isi (by rfl) T.b_isinstance boot_isinstance (pa_cons (pe_ix ix_tup (pv 3) pe_int (fun _ _ => rfl)) (pa_cons (pe_bltn (v := .ty "bool") (by rfl) T.b_bool boot_bool rfl) pa_nil))))) (pw_or1 (pt_cmpR op_ne (pe_ix ix_tup (pv 3) pe_int (fun _ _ => rfl)) (pe_can C_l_same_for_ever hr (by decide) rfl (pa_cons (pv 0) (pa_cons (pv 1) pa_nil))) (nomark _)))))) (pss_one (ps_ret pe_bl)) pss_nil)
  (pss_cons (ps_set (i := 3) sc_l_pair_right.nd rfl (by first | exact Or.inl rfl | exact Or.inr rfl) (pe_can C_l_told hr (by decide) rfl (pa_cons pe_int (pa_cons (pv 0) (pa_cons (pv 1) pa_nil)))))
  (pss_cons (ps_set (i := 4) sc_l_pair_right.nd rfl (by first | exact Or.inl rfl | exact Or.inr rfl) (pe_can C_l_moments hr (by decide) rfl (pa_cons (pv 0) (pa_cons (pv 1) pa_nil))))
  (pss_cons (ps_if (PW.pt (pw_or (pt_cmpR op_ne (pe_ix ix_tup (pv 3) pe_int (fun _ _ => rfl)) (pe_strL [116, 111, 108, 100] (by decide +kernel)) (nomark _)) (pw_or (pt_not (pt_val (pe_callB call_isi (by rfl) T.b_isinstance boot_isinstance (pa_cons (pe_ix ix_tup (pv 3) pe_int (fun _ _ => rfl)) (pa_cons (pe_bltn (v := .ty "tuple") (by rfl) T.b_tuple boot_tuple rfl) pa_nil))))) (pw_or1 (pt_cmpR (op_neD (hu64 hr)) (pe_ix ix_tup (pv 3) pe_int (fun _ _ => rfl)) (pv 4) (nomark _)))))) (pss_one (ps_ret pe_bl)) pss_nil)
  (pss_one (ps_ret (pe_callB (cr_all rfl) (by rfl) T.b_all boot_all (pa_cons (pe_lc (own := [("_law_number_here", 5)]) (g := gName 5) (tt := tYes) rfl sc_l_pair_right.nd (pi_tup (pe_ix ix_tup (pv 3) pe_int (fun _ _ => rfl))) (blkOk_by (N := N_l_pair_right) (sc := defScope s_l_pair_right) (by decide +kernel)) (fun _ _ _ _ _ => pg_name (i := 5) sc_l_pair_right.nd rfl (Or.inl rfl)) (fun _ _ _ _ _ => pts_nil) (fun _ _ _ _ _ => (pe_can C_l_is_int hr (by decide) rfl (pa_cons (pv 5) pa_nil)))) pa_nil)))))))))))), ?_⟩)
  · obtain ⟨_, _, _, rfl, _⟩ := h
    rfl
  · obtain ⟨a, b, n, rfl, ha, hb, hn, q⟩ := h
    have la := ha.le
    have lb := hb.le
    walk_at "rd"
    -- the least round
    refine ⟨rfl, 0, _, _, rfl, .inl ⟨rfl, _, rfl, .inl ⟨a, rfl, ha, fun H1 ex1 t1 H2 ex2 ht1 => ?_⟩⟩⟩
    walk_at "rd"
    refine ⟨a, rfl, ha.ne, by omega, ?_⟩
    walk_at "rd"
    refine ⟨t1, _, _, rfl, ht1, ?_⟩
    walk_at "rd"
    refine r_iteN (fun z => absurd rfl z) (fun _ => ?_)
    have exA := ex1.trans ex2
    clear ex1 ex2 ht1 H1
    walk_at "rd"
    -- the rhythm
    refine ⟨rfl, 1, _, _, rfl, .inr (.inl ⟨rfl, _, rfl, .inl ⟨a, rfl, ha, fun z H3 hz1 hz2 ex1 t1 H4 ex2 ht1 => ?_⟩⟩)⟩
    walk_at "rd"
    refine ⟨a, rfl, ha.ne, by omega, fun z' H5 hz3 hz4 ex3 => ?_⟩
    have ez : z = z' := List.le_antisymm (List.not_lt.mp (hz2 z' hz3)) (List.not_lt.mp (hz4 z hz1))
    subst ez
    walk_at "rd"
    refine ⟨t1, _, _, rfl, ex3 _ _ ht1, ?_⟩
    walk_at "rd"
    refine r_iteN (fun z => absurd rfl z) (fun _ => ?_)
    have exB := exA.trans ((ex1.trans ex2).trans ex3)
    clear ex1 ex2 ex3 ht1 exA
    walk_at "rd"
    -- turned
    refine ⟨rfl, 2, _, _, rfl, .inr (.inr (.inl ⟨rfl, _, _, rfl, .inl ⟨a, rfl, ha, .inl ⟨n, rfl, hn, fun H1 ex1 t1 H6 ex2 ht1 => ?_⟩⟩⟩))⟩
    walk_at "rd"
    refine ⟨a, n, rfl, ha.ne, by omega, hn, fun H7 ex3 => ?_⟩
    walk_at "rd"
    refine ⟨t1, _, _, rfl, ex3 _ _ ht1, ?_⟩
    walk_at "rd"
    refine r_iteN (fun z => absurd rfl z) (fun _ => ?_)
    have exC := exB.trans ((ex1.trans ex2).trans ex3)
    clear ex1 ex2 ex3 ht1 exB
    walk_at "rd"
    -- alike
    refine ⟨rfl, 3, _, _, rfl, .inr (.inr (.inr (.inl ⟨rfl, _, _, rfl, .inl ⟨a, rfl, ha, .inl ⟨b, rfl, hb, fun H1 ex1 t1 H8 ex2 ht1 => ?_⟩⟩⟩)))⟩
    walk_at "rd"
    refine r_iteN (fun z => absurd rfl z) (fun _ => ?_)
    walk_at "rd"
    refine ⟨a, b, rfl, ha.ne, hb.ne, by omega, by omega, ?_⟩
    walk_at "rd"
    refine r_iteN (fun z => absurd rfl z) (fun _ => ?_)
    have exD := exC.trans (ex1.trans ex2)
    clear ex1 ex2 ht1 exC
    walk_at "rd"
    -- the moments
    refine ⟨rfl, 4, _, _, rfl, .inr (.inr (.inr (.inr ⟨rfl, _, _, rfl, .inl ⟨a, rfl, ha, .inl ⟨b, rfl, hb, fun p H1 ex1 hp t1 H9 ex2 ht1 => ?_⟩⟩⟩)))⟩
    walk_at "rd"
    refine ⟨a, b, rfl, ha.ne, hb.ne, by omega, by omega, fun p2 H10 ex3 hp2 => ?_⟩
    have hp1 := ex3 _ _ (ex2 _ _ hp)
    have ht2 := ex3 _ _ ht1
    have exE := exD.trans ((ex1.trans ex2).trans ex3)
    walk_at "rd"
    refine r_iteN (fun z => absurd rfl z) (fun _ => ?_)
    walk_at "rd"
    have em : (moms a b).map (fun (n : Nat) => V.int (n : Int)) = ((moms a b).map fun (n : Nat) => (n : Int)).map V.int := by rw [List.map_map]; rfl
    rw [em] at hp1 hp2
    refine r_neSame (.tup (Evl.st_of hp1) (dp_ints _)) (.tup (Evl.st_of hp2) (dp_ints _)) (shaped_ints _) ?_
    walk_at "rd"
    have lm : ((moms a b).map fun (n : Nat) => (n : Int)).length ≤ 100 := by
      rw [List.length_map]
      unfold moms
      have h1 := List.length_filter_le (fun n => SameB (rot b n) a) (List.range (per b))
      rw [List.length_range] at h1
      have h2 := per_spec hb.ne
      omega
    generalize (moms a b).map (fun (n : Nat) => (n : Int)) = ms at *
    refine lcT (xs := ms.map V.int) (fun D i acc H2 => Ex H10 H2 ∧ acc = (List.replicate i true).map V.bl) (fun _ => rfl) (fun D hD => ⟨Evl.Ex.new hD, rfl⟩) (fun D i H2 acc hD hJ => Evl.st_of (hJ.1 _ _ hp1))
      (fun D i x H2 acc hD hx e2 hl2 hJ => ?_) (fun D H2 acc hD e2 hJ => ?_)
    · obtain ⟨ex, rfl⟩ := hJ
      have hi := lt_of_get hx
      rw [List.length_map] at hi
      have hx2 : x = .int ms[i] := by
        rw [List.getElem?_map, List.getElem?_eq_getElem hi] at hx
        exact (Option.some.inj hx).symm
      subst hx2
      walk_at "rd"
      refine ⟨_, true, rfl, .inl ⟨_, rfl, rfl⟩, ?_⟩
      refine lc_end (by omega) hl2 e2 ⟨ex.mut hD, ?_⟩
      rw [List.replicate_succ', List.map_append]
      rfl
    · obtain ⟨ex, rfl⟩ := hJ
      walk_at "rd"
      refine r_all (Evl.sq_of e2) ?_
      rw [all_true]
      exact q H2 (exE.trans ex)
end
end Fk

set_option Elab.async false
set_option linter.all false
set_option maxRecDepth 100000
set_option maxHeartbeats 4000000
namespace Fk
open PySem PySem.Spec PyProof.Rows L2 Fg Fm
local macro_rules | `(tactic| walk_at "rd1") => `(tactic| first
  | with_reducible refine r_seq ?_
  | with_reducible refine r_asg ?_
  | with_reducible refine r_gname ?_
  | with_reducible refine r_gsub ?_
  | with_reducible refine r_ret ?_
  | with_reducible refine r_retN ?_
  | with_reducible refine r_next ?_
  | with_reducible refine r_drop ?_
  | with_reducible refine r_ifS ?_
  | with_reducible refine r_if ?_
  | with_reducible refine r_par ?_
  | with_reducible refine r_pair ?_
  | with_reducible refine r_test ?_
  | with_reducible refine r_tB ?_
  | with_reducible refine r_not ?_
  | with_reducible refine r_and ?_
  | with_reducible refine r_or ?_
  | with_reducible refine r_andV ?_
  | with_reducible refine r_orV ?_
  | with_reducible refine r_notV ?_
  | with_reducible refine r_nil ?_
  | with_reducible refine r_cons ?_
  | with_reducible refine r_call ?_
  | with_reducible refine r_callS ?_
  | with_reducible refine r_cb ?_
  | with_reducible refine r_then ?_
  | with_reducible refine r_tup ?_
  | with_reducible refine r_lst ?_
  | with_reducible refine r_sl ?_
  | with_reducible refine r_nopart ?_
  | with_reducible refine r_part ?_
  | with_reducible refine r_lcR1 ?_
  | with_reducible refine r_lcR2 ?_
  | with_reducible refine r_lcL ?_
  | with_reducible refine r_lcT ?_
  | with_reducible refine r_forR1 ?_
  | with_reducible refine r_forR2 ?_
  | with_reducible refine r_forL ?_
  | with_reducible refine r_forT ?_
  | with_reducible refine r_forE ?_
  | with_reducible refine r_strE ?_
  | ((with_reducible refine r_rng1 ?hc ?_); (case hc => omega))
  | ((with_reducible refine r_rng2 ?hc ?_); (case hc => omega))
  | ((with_reducible refine' r_refL ?hc ?_); (case hc => first | assumption | exact Evl.sq_of (by assumption)))
  | ((with_reducible refine' r_refT ?hc ?_); (case hc => first | assumption | exact Evl.st_of (by assumption)))
  | with_reducible refine r_op ?_
  | with_reducible refine r_un ?_
  | with_reducible refine r_chain ?_
  | ((with_reducible refine' r_var ?hv ?_); (case hv => exact rfl))
  | with_reducible refine r_cS ?_
  | with_reducible refine r_cs ?_
  | with_reducible refine r_c ?_
  | with_reducible refine r_yes ?_
  | with_reducible refine r_bm ?_
  | with_reducible refine r_bl ?_
  | with_reducible refine r_in ?_
  | with_reducible refine r_ty ?_
  | with_reducible refine r_I0 ?_
  | ((with_reducible refine r_I ?hc ?_); (case hc => first | assumption | (show (0 : Int) < _; decide) | exact Or.inr ⟨by decide, by decide⟩ | exact Or.inr ⟨by omega, by omega⟩ | exact Or.inl ⟨by decide, by decide⟩ | exact (show CDivW _ _ from ⟨by decide, by decide +kernel⟩) | exact (show CPowW _ _ from ⟨by decide, by decide +kernel⟩) | (show (0 : Int) < _; omega)))
  | with_reducible refine r_U ?_
  | with_reducible refine r_eqI ?_
  | with_reducible refine r_neI ?_
  | with_reducible refine r_eqS ?_
  | with_reducible refine r_neS ?_
  | with_reducible refine r_eqB ?_
  | with_reducible refine r_neB ?_
  | with_reducible refine r_niS ?_
  | with_reducible refine r_inSS ?_
  | ((with_reducible refine r_slSS ?hc ?_); (case hc => first | exact small (by omega) | exact small (by simp; omega)))
  | ((with_reducible refine r_lenS ?hc ?_); (case hc => first | exact small (by omega) | exact small (by simp; omega)))
  | ((with_reducible refine' r_lenL ?hc ?_); (case hc => first | assumption | exact Evl.sq_of (by assumption)))
  | ((with_reducible refine' r_lenT ?hc ?_); (case hc => first | assumption | exact Evl.st_of (by assumption)))
  | ((with_reducible refine' r_ixL ?h1 ?h2 ?h3 ?_); (case h1 => first | assumption | exact Evl.sq_of (by assumption) | exact Evl.sq_of upd_same); (case h2 => first | decide | omega); (case h3 => first | exact rfl | assumption))
  | ((with_reducible refine' r_ixT ?h1 ?h2 ?h3 ?_); (case h1 => first | assumption | exact Evl.st_of (by assumption)); (case h2 => first | decide | omega); (case h3 => first | exact rfl | assumption))
  | with_reducible refine r_T ?_
  | with_reducible refine r_notNn ?_
  | with_reducible refine r_notN_int ?_
  | with_reducible refine r_notN_str ?_
  | with_reducible refine r_notN_ref ?_
  | with_reducible refine r_isNn ?_
  | with_reducible refine r_isN_int ?_
  | with_reducible refine r_isN_str ?_
  | with_reducible refine r_isN_ref ?_
  | ((with_reducible refine' r_isi ?ht ?hk ?_); (case ht => first | exact .base (.int _) | exact .base (.bl _) | exact .base (.str _) | exact .base .non | exact .base (.lst (by assumption)) | exact .base (.tup (by assumption))); (case hk => first | exact kb_int_int | exact kb_int_bool | exact kb_int_str | exact kb_int_list | exact kb_int_tuple | exact kb_bool_int | exact kb_bool_bool | exact kb_bool_str | exact kb_bool_list | exact kb_bool_tuple | exact kb_str_int | exact kb_str_bool | exact kb_str_str | exact kb_str_list | exact kb_str_tuple | exact kb_NoneType_int | exact kb_NoneType_bool | exact kb_NoneType_str | exact kb_NoneType_list | exact kb_NoneType_tuple | exact kb_list_int | exact kb_list_bool | exact kb_list_str | exact kb_list_list | exact kb_list_tuple | exact kb_tuple_int | exact kb_tuple_bool | exact kb_tuple_str | exact kb_tuple_list | exact kb_tuple_tuple))
  | with_reducible refine r_F ?_
  | with_reducible refine r_nT ?_
  | with_reducible refine r_nF ?_
  | with_reducible refine r_mko ?_
  | with_reducible refine r_xf ?_
  | ((with_reducible refine' r_sum ?hc ?_); (case hc => first | assumption | exact Evl.sq_of (by assumption)))
  | ((with_reducible refine' r_setL ?h1 ?h2 ?h3 ?_); (case h1 => first | assumption | exact upd_same); (case h2 => first | decide | omega); (case h3 => first | (show _ < _; decide) | (simp; done)))
  | with_reducible refine r_int ?_
  | with_reducible refine r_abs ?_)
local macro_rules | `(tactic| walk_at "rd") => `(tactic| repeat (walk_at "rd1"))

section
variable {P : Program} {w : World} {K : PySem.W.Frag} {mg : Str → Option Value} {base : Heap}
/-- a thing that is no round, and stands apart from the draw -/
structure BadV (d : Addr) (H : Hp) (v : V) (n : Int) : Prop where
  bad : BadRd H v n
  off : ∀ b, v = .ref b → b ≠ d
theorem BadV.kp {d : Addr} {H H' : Hp} {v : V} {n : Int} (h : BadV d H v n) (k : Kp d H H') : BadV d H' v n := by
  refine ⟨?_, h.off⟩
  have o := h.off
  rcases h.bad with ⟨h1, h2⟩ | h3
  · refine .inl ⟨h1, ?_⟩
    rcases h2 with (h | h | h | ⟨a, xs, e, h⟩ | ⟨a, xs, e, h⟩) | h
    · exact .inl (.inl h)
    · exact .inl (.inr (.inl h))
    · exact .inl (.inr (.inr (.inl h)))
    · exact .inl (.inr (.inr (.inr (.inl ⟨a, xs, e, k _ _ (o a e) h⟩))))
    · exact .inl (.inr (.inr (.inr (.inr ⟨a, xs, e, k _ _ (o a e) h⟩))))
    · exact .inr h
  · exact .inr h3
def spBadRound : Sp := fun vs H Q _ => ∃ (c d : Addr) (l : List Nat) (ns : List Int), vs = [.ref d, .str (S l)] ∧ Dr ns c d H ∧ Rnd l ∧ ∀ v n p H', BadV d H' v n → Kp d H H' → Dr ns c d H' → p ≠ d → H' p = some (.tup [v, .int n]) → Q (.ref p) H'
theorem bad_sign {k : Int} (h0 : 0 ≤ k) (h1 : k < 8 ∨ k = 0) : ∃ x, ([120, 87, 71, 48, 45, 44, 32, 50] : List Nat)[k.toNat]? = some x ∧ ¬ Sg x := by
  obtain ⟨j, rfl⟩ : ∃ j : Nat, k = j := ⟨k.toNat, by omega⟩
  rw [Int.toNat_natCast]
  have hj : j < 8 := by omega
  match j, hj with
  | 0, _ => exact ⟨_, rfl, by unfold Sg; decide⟩
  | 1, _ => exact ⟨_, rfl, by unfold Sg; decide⟩
  | 2, _ => exact ⟨_, rfl, by unfold Sg; decide⟩
  | 3, _ => exact ⟨_, rfl, by unfold Sg; decide⟩
  | 4, _ => exact ⟨_, rfl, by unfold Sg; decide⟩
  | 5, _ => exact ⟨_, rfl, by unfold Sg; decide⟩
  | 6, _ => exact ⟨_, rfl, by unfold Sg; decide⟩
  | 7, _ => exact ⟨_, rfl, by unfold Sg; decide⟩
theorem put_len {l : List Nat} {x i : Nat} (h : i < l.length) : (l.take i ++ [x] ++ l.drop (i + 1)).length = l.length := by
  rw [List.length_append, List.length_append, List.length_singleton, List.length_take, List.length_drop]
  omega
theorem put_at {l : List Nat} {x i : Nat} (h : i < l.length) : (l.take i ++ [x] ++ l.drop (i + 1))[i]? = some x := by
  rw [List.append_assoc, List.getElem?_append_right (by rw [List.length_take]; omega), List.length_take, Nat.min_eq_left (by omega), Nat.sub_self]
  rfl
theorem put_lt {l : List Nat} {x i j : Nat} (h : i < l.length) (hj : j < i) : (l.take i ++ [x] ++ l.drop (i + 1))[j]? = l[j]? := by
  rw [List.append_assoc, List.getElem?_append_left (by rw [List.length_take]; omega), List.getElem?_take_of_lt hj]
abbrev s_l_bad_round : Stmt := topS 39
abbrev N_l_bad_round : List Str := ["_law_draw_here", "_law_row", "_law_place", "_law_later_here", "_law_bad", "_law_menu"]
theorem sc_l_bad_round : FnScope ["_law_draw_here", "_law_row", "_law_place", "_law_later_here", "_law_bad", "_law_menu"] ["_law_draw_here", "_law_row"] (defScope s_l_bad_round) := ⟨rfl, rfl, rfl, by decide +kernel, rfl, by decide +kernel, by decide +kernel⟩
theorem can_l_bad_round (T : Bi mg) (F : Defd K mg "_law_bad_round" s_l_bad_round ["_law_draw_here", "_law_row"]) (C_l_pick : Can P w K mg base L2.CX0 2 "_law_pick" ["_law_draw_here", "_law_many"] spPick) : Can P w K mg base L2.CX0 3 "_law_bad_round" ["_law_draw_here", "_law_row"] spBadRound := by
  refine can0 F sc_l_bad_round (fun vs H Q E h => ?_) (fun f cdv A outer s H vs Q E hr h => ⟨_, (pss_cons (ps_if (pt_cmpR op_eq (pe_can C_l_pick hr (by decide) rfl (pa_cons (pv 0) (pa_cons pe_int pa_nil))) pe_int (nomark _)) (pss_cons (ps_set (i := 5) sc_l_bad_round.nd rfl (by first | exact Or.inl rfl | exact Or.inr rfl) (pe_lst (pa_cons (pe_strL [] (by decide +kernel)) (pa_cons (pe_slice sl_strS (pe_op op_repS (pv 1) pe_int) po_none (po_some pe_int)) (pa_cons (pe_op op_repS (pe_strL [120] (by decide +kernel)) pe_int) (pa_cons pe_non (pa_cons pe_int (pa_cons pe_bl (pa_cons (pe_tup (pa_cons (pe_strL [119] (by decide +kernel)) pa_nil)) (pa_cons (pe_lst (pa_cons (pe_strL [119] (by decide +kernel)) pa_nil)) pa_nil))))))))))
  (pss_one (ps_ret (pe_tup (pa_cons (pe_ix ix_list (pv 5) (pe_can C_l_pick hr (by decide) rfl (pa_cons (pv 0) (pa_cons pe_int pa_nil))) (fun _ _ => rfl)) (pa_cons (pe_un un_neg pe_int) pa_nil)))))) pss_nil)
  (pss_cons (ps_set (i := 2) sc_l_bad_round.nd rfl (by first | exact Or.inl rfl | exact Or.inr rfl) (pe_can C_l_pick hr (by decide) rfl (pa_cons (pv 0) (pa_cons (pe_callB call_lenS (by rfl) T.b_len boot_len (pa_cons (pv 1) pa_nil)) pa_nil))))
  (pss_cons (ps_set (i := 3) sc_l_bad_round.nd rfl (by first | exact Or.inl rfl | exact Or.inr rfl) (pe_op op_add (pv 2) (pe_can C_l_pick hr (by decide) rfl (pa_cons (pv 0) (pa_cons (pe_op op_sub (pe_callB call_lenS (by rfl) T.b_len boot_len (pa_cons (pv 1) pa_nil)) (pv 2)) pa_nil)))))
  (pss_cons (ps_set (i := 4) sc_l_bad_round.nd rfl (by first | exact Or.inl rfl | exact Or.inr rfl) (pe_op op_catS (pe_op op_catS (pe_slice sl_strS (pv 1) po_none (po_some (pv 3))) (pe_ix ix_strS (pe_strL [120, 87, 71, 48, 45, 44, 32, 50] (by decide +kernel)) (pe_can C_l_pick hr (by decide) rfl (pa_cons (pv 0) (pa_cons pe_int pa_nil))) (fun _ _ => rfl))) (pe_slice sl_strS (pv 1) (po_some (pe_op op_add (pv 3) pe_int)) po_none)))
  (pss_one (ps_ret (pe_tup (pa_cons (pe_op op_catS (pe_op op_catS (pe_slice sl_strS (pv 4) po_none (po_some (pv 2))) (pe_ix ix_strS (pe_strL [120, 87, 71, 48, 45, 44, 32, 50] (by decide +kernel)) (pe_can C_l_pick hr (by decide) rfl (pa_cons (pv 0) (pa_cons pe_int pa_nil))) (fun _ _ => rfl))) (pe_slice sl_strS (pv 4) (po_some (pe_op op_add (pv 2) pe_int)) po_none)) (pa_cons (pv 2) pa_nil))))))))), ?_⟩)
  · obtain ⟨_, _, _, _, rfl, _⟩ := h
    rfl
  · obtain ⟨c, d, l, ns, rfl, hD, hl, q⟩ := h
    have l1 := hl.pos
    have l2 := hl.le
    walk_at "rd"
    refine ⟨c, d, 3, ns, rfl, hD, by decide, fun k H1 k0 k1 kp1 hD1 => ?_⟩
    walk_at "rd"
    refine r_ite (fun h3 => ?_) (fun h3 => ?_)
    · walk_at "rd"
      refine r_repS (by decide) (by decide) (small (by show l.length * 25 ≤ 1000000; omega)) ?_
      have lr : ((List.replicate (25 : Int).toNat l).flatten).length = 25 * l.length := rep_len l 25
      generalize (List.replicate (25 : Int).toNat l).flatten = lw at lr ⊢
      walk_at "rd"
      refine r_repS (by decide) (by decide) (small (by decide)) ?_
      have lc : (cutL lw none (some 25)).length = 25 := by
        rw [cut_to (by decide), List.length_take, lr]
        show min 25 _ = _
        omega
      generalize cutL lw none (some 25) = lz at lc ⊢
      have lx : ((List.replicate (25 : Int).toNat ([120] : List Nat)).flatten).length = 25 := by decide
      generalize (List.replicate (25 : Int).toNat ([120] : List Nat)).flatten = lv at lx ⊢
      walk_at "rd"
      refine ⟨small (by show 1 ≤ 1000000; decide), fun t1 hn1 => ?_⟩
      have ex2 := Evl.Ex.new (o := .tup [V.str (S [119])]) hn1
      have ht1 : (upd H1 t1 (.tup [V.str (S [119])])) t1 = some (.tup [V.str (S [119])]) := upd_same
      generalize upd H1 t1 (.tup [V.str (S [119])]) = H2 at ex2 ht1 ⊢
      walk_at "rd"
      refine ⟨small (by show 1 ≤ 1000000; decide), fun t2 hn2 => ?_⟩
      have ex3 := Evl.Ex.new (o := .lst [V.str (S [119])]) hn2
      have ht2 : (upd H2 t2 (.lst [V.str (S [119])])) t2 = some (.lst [V.str (S [119])]) := upd_same
      generalize upd H2 t2 (.lst [V.str (S [119])]) = H3 at ex3 ht2 ⊢
      walk_at "rd"
      refine ⟨small (by show 8 ≤ 1000000; decide), fun m hn3 => ?_⟩
      have ex4 := Evl.Ex.new (o := .lst [.str (S []), .str (S lz), .str (S lv), .non, .int 7, .bl true, .ref t1, .ref t2]) hn3
      have hm : (upd H3 m (.lst [.str (S []), .str (S lz), .str (S lv), .non, .int 7, .bl true, .ref t1, .ref t2])) m = some (.lst [.str (S []), .str (S lz), .str (S lv), .non, .int 7, .bl true, .ref t1, .ref t2]) := upd_same
      generalize upd H3 m (.lst [.str (S []), .str (S lz), .str (S lv), .non, .int 7, .bl true, .ref t1, .ref t2]) = H4 at ex4 hm ⊢
      have exA := (ex2.trans ex3).trans ex4
      have hD4 := hD1.ex' exA
      walk_at "rd"
      refine ⟨c, d, 8, ns, rfl, hD4, by decide, fun j H5 j0 j1 kp5 hD5 => ?_⟩
      have o1 : t1 ≠ d := hD1.nd hn1
      have o2 : t2 ≠ d := (hD1.ex' ex2).nd hn2
      have o3 : m ≠ d := (hD1.ex' (ex2.trans ex3)).nd hn3
      have hm5 := kp5 _ _ o3 hm
      have ht1' := kp5 _ _ o1 (ex4 _ _ (ex3 _ _ ht1))
      have ht2' := kp5 _ _ o2 (ex4 _ _ ht2)
      have kp := (kp1.trans (Kp.of exA)).trans kp5
      have hj : j.toNat < 8 := by omega
      have fin : ∀ v ∈ ([.str (S []), .str (S lz), .str (S lv), .non, .int 7, .bl true, .ref t1, .ref t2] : List V), BadV d H5 v (-1) := by
        intro v hv
        simp only [List.mem_cons, List.not_mem_nil, or_false] at hv
        rcases hv with rfl | rfl | rfl | rfl | rfl | rfl | rfl | rfl
        · exact ⟨.inl ⟨rfl, .inr ⟨[], rfl, by decide, .inl rfl⟩⟩, fun b e => nomatch e⟩
        · exact ⟨.inl ⟨rfl, .inr ⟨_, rfl, by omega, .inr (by omega)⟩⟩, fun b e => nomatch e⟩
        · exact ⟨.inl ⟨rfl, .inr ⟨_, rfl, by omega, .inr (by omega)⟩⟩, fun b e => nomatch e⟩
        · exact ⟨.inl ⟨rfl, .inl (.inl rfl)⟩, fun b e => nomatch e⟩
        · exact ⟨.inl ⟨rfl, .inl (.inr (.inr (.inl ⟨_, rfl⟩)))⟩, fun b e => nomatch e⟩
        · exact ⟨.inl ⟨rfl, .inl (.inr (.inl ⟨_, rfl⟩))⟩, fun b e => nomatch e⟩
        · exact ⟨.inl ⟨rfl, .inl (.inr (.inr (.inr (.inr ⟨_, _, rfl, ht1'⟩))))⟩, fun b e => by cases e; exact o1⟩
        · exact ⟨.inl ⟨rfl, .inl (.inr (.inr (.inr (.inl ⟨_, _, rfl, ht2'⟩))))⟩, fun b e => by cases e; exact o2⟩
      have hml : ([.str (S []), .str (S lz), .str (S lv), .non, .int 7, .bl true, .ref t1, .ref t2] : List V).length = 8 := rfl
      generalize ([.str (S []), .str (S lz), .str (S lv), .non, .int 7, .bl true, .ref t1, .ref t2] : List V) = ml at *
      have hj2 : j.toNat < ml.length := by omega
      walk_at "rd"
      refine r_ixL (v := ml[j.toNat]) (Evl.sq_of hm5) j0 (List.getElem?_eq_getElem hj2) ?_
      walk_at "rd"
      refine ⟨small (by show 2 ≤ 1000000; decide), fun p hp => ?_⟩
      exact q _ (-1) p _ ((fin _ (List.getElem_mem _)).kp (Kp.of (Evl.Ex.new hp))) (kp.trans (Kp.of (Evl.Ex.new hp))) (hD5.ex' (Evl.Ex.new hp)) (hD5.nd hp) upd_same
    · clear h3
      walk_at "rd"
      refine ⟨c, d, _, ns, rfl, hD1, by omega, fun i H2 i0 i1 kp2 hD2 => ?_⟩
      walk_at "rd"
      refine ⟨c, d, _, ns, rfl, hD2, by omega, fun i2 H3 i20 i21 kp3 hD3 => ?_⟩
      walk_at "rd"
      refine ⟨c, d, 8, ns, rfl, hD3, by decide, fun k1 H4 k10 k11 kp4 hD4 => ?_⟩
      obtain ⟨x, hx, nx⟩ := bad_sign k10 k11
      obtain ⟨a, rfl⟩ : ∃ a : Nat, i = a := ⟨i.toNat, by omega⟩
      obtain ⟨b2, rfl⟩ : ∃ a : Nat, i2 = a := ⟨i2.toNat, by omega⟩
      walk_at "rd"
      refine r_ixSS (small (by decide)) k10 hx ?_
      have hb : a + b2 < l.length := by omega
      rw [show ((a : Int) + (b2 : Int)) = ((a + b2 : Nat) : Int) by omega, cut_to (by omega), Int.toNat_natCast]
      generalize eb : a + b2 = b at hb ⊢
      have lt : (l.take b).length = b := by rw [List.length_take]; omega
      refine r_catS (small (by rw [lt]; show b + 1 ≤ 1000000; omega)) ?_
      walk_at "rd"
      rw [show ((b : Int) + 1) = ((b + 1 : Nat) : Int) by omega, cut_from (by omega), Int.toNat_natCast]
      have l3 : (l.take b ++ [x] ++ l.drop (b + 1)).length = l.length := put_len hb
      refine r_catS (small (by rw [List.length_append] at l3; omega)) ?_
      have mlt : ∀ j, j < b → (l.take b ++ [x] ++ l.drop (b + 1))[j]? = l[j]? := fun j hj => put_lt hb hj
      generalize l.take b ++ [x] ++ l.drop (b + 1) = m at l3 mlt ⊢
      walk_at "rd"
      refine ⟨c, d, 8, ns, rfl, hD4, by decide, fun k2 H5 k20 k21 kp5 hD5 => ?_⟩
      obtain ⟨y, hy, ny⟩ := bad_sign k20 k21
      walk_at "rd"
      refine r_ixSS (small (by decide)) k20 hy ?_
      rw [cut_to (by omega), Int.toNat_natCast]
      have ha : a < m.length := by omega
      have lt2 : (m.take a).length = a := by rw [List.length_take]; omega
      refine r_catS (small (by rw [lt2]; show a + 1 ≤ 1000000; omega)) ?_
      walk_at "rd"
      rw [show ((a : Int) + 1) = ((a + 1 : Nat) : Int) by omega, cut_from (by omega), Int.toNat_natCast]
      have l4 : (m.take a ++ [y] ++ m.drop (a + 1)).length = m.length := put_len ha
      refine r_catS (small (by rw [List.length_append] at l4; omega)) ?_
      have hf : FirstBad (m.take a ++ [y] ++ m.drop (a + 1)) a := ⟨y, put_at ha, ny, fun j c hj hc => by
        rw [put_lt ha hj, mlt j (by omega)] at hc
        exact hl.sg c (List.mem_of_getElem? hc)⟩
      generalize m.take a ++ [y] ++ m.drop (a + 1) = m2 at l4 hf ⊢
      walk_at "rd"
      refine ⟨small (by show 2 ≤ 1000000; decide), fun p hp => ?_⟩
      have kp := (((kp1.trans kp2).trans kp3).trans kp4).trans kp5
      exact q _ (a : Int) p _ ⟨.inr ⟨m2, a, rfl, by omega, by omega, hf, rfl⟩, fun b e => nomatch e⟩ (kp.trans (Kp.of (Evl.Ex.new hp))) (hD5.ex' (Evl.Ex.new hp)) (hD5.nd hp) upd_same
end
end Fk

set_option Elab.async false
set_option linter.all false
set_option maxRecDepth 100000
set_option maxHeartbeats 4000000
namespace Fk
open PySem PySem.Spec PyProof.Rows L2 Fg Fm
local macro_rules | `(tactic| walk_at "rd1") => `(tactic| first
  | with_reducible refine r_seq ?_
  | with_reducible refine r_asg ?_
  | with_reducible refine r_gname ?_
  | with_reducible refine r_gsub ?_
  | with_reducible refine r_ret ?_
  | with_reducible refine r_retN ?_
  | with_reducible refine r_next ?_
  | with_reducible refine r_drop ?_
  | with_reducible refine r_ifS ?_
  | with_reducible refine r_if ?_
  | with_reducible refine r_par ?_
  | with_reducible refine r_pair ?_
  | with_reducible refine r_test ?_
  | with_reducible refine r_tB ?_
  | with_reducible refine r_not ?_
  | with_reducible refine r_and ?_
  | with_reducible refine r_or ?_
  | with_reducible refine r_andV ?_
  | with_reducible refine r_orV ?_
  | with_reducible refine r_notV ?_
  | with_reducible refine r_nil ?_
  | with_reducible refine r_cons ?_
  | with_reducible refine r_call ?_
  | with_reducible refine r_callS ?_
  | with_reducible refine r_cb ?_
  | with_reducible refine r_then ?_
  | with_reducible refine r_tup ?_
  | with_reducible refine r_lst ?_
  | with_reducible refine r_sl ?_
  | with_reducible refine r_nopart ?_
  | with_reducible refine r_part ?_
  | with_reducible refine r_lcR1 ?_
  | with_reducible refine r_lcR2 ?_
  | with_reducible refine r_lcL ?_
  | with_reducible refine r_lcT ?_
  | with_reducible refine r_forR1 ?_
  | with_reducible refine r_forR2 ?_
  | with_reducible refine r_forL ?_
  | with_reducible refine r_forT ?_
  | with_reducible refine r_forE ?_
  | with_reducible refine r_strE ?_
  | ((with_reducible refine r_rng1 ?hc ?_); (case hc => omega))
  | ((with_reducible refine r_rng2 ?hc ?_); (case hc => omega))
  | ((with_reducible refine' r_refL ?hc ?_); (case hc => first | assumption | exact Evl.sq_of (by assumption)))
  | ((with_reducible refine' r_refT ?hc ?_); (case hc => first | assumption | exact Evl.st_of (by assumption)))
  | with_reducible refine r_op ?_
  | with_reducible refine r_un ?_
  | with_reducible refine r_chain ?_
  | ((with_reducible refine' r_var ?hv ?_); (case hv => exact rfl))
  | with_reducible refine r_cS ?_
  | with_reducible refine r_cs ?_
  | with_reducible refine r_c ?_
  | with_reducible refine r_yes ?_
  | with_reducible refine r_bm ?_
  | with_reducible refine r_bl ?_
  | with_reducible refine r_in ?_
  | with_reducible refine r_ty ?_
  | with_reducible refine r_I0 ?_
  | ((with_reducible refine r_I ?hc ?_); (case hc => first | assumption | (show (0 : Int) < _; decide) | exact Or.inr ⟨by decide, by decide⟩ | exact Or.inr ⟨by omega, by omega⟩ | exact Or.inl ⟨by decide, by decide⟩ | exact (show CDivW _ _ from ⟨by decide, by decide +kernel⟩) | exact (show CPowW _ _ from ⟨by decide, by decide +kernel⟩) | (show (0 : Int) < _; omega)))
  | with_reducible refine r_U ?_
  | with_reducible refine r_eqI ?_
  | with_reducible refine r_neI ?_
  | with_reducible refine r_eqS ?_
  | with_reducible refine r_neS ?_
  | with_reducible refine r_eqB ?_
  | with_reducible refine r_neB ?_
  | with_reducible refine r_niS ?_
  | with_reducible refine r_inSS ?_
  | ((with_reducible refine r_slSS ?hc ?_); (case hc => first | exact small (by omega) | exact small (by simp; omega)))
  | ((with_reducible refine r_lenS ?hc ?_); (case hc => first | exact small (by omega) | exact small (by simp; omega)))
  | ((with_reducible refine' r_lenL ?hc ?_); (case hc => first | assumption | exact Evl.sq_of (by assumption)))
  | ((with_reducible refine' r_lenT ?hc ?_); (case hc => first | assumption | exact Evl.st_of (by assumption)))
  | ((with_reducible refine' r_ixL ?h1 ?h2 ?h3 ?_); (case h1 => first | assumption | exact Evl.sq_of (by assumption) | exact Evl.sq_of upd_same); (case h2 => first | decide | omega); (case h3 => first | exact rfl | assumption))
  | ((with_reducible refine' r_ixT ?h1 ?h2 ?h3 ?_); (case h1 => first | assumption | exact Evl.st_of (by assumption)); (case h2 => first | decide | omega); (case h3 => first | exact rfl | assumption))
  | with_reducible refine r_T ?_
  | with_reducible refine r_notNn ?_
  | with_reducible refine r_notN_int ?_
  | with_reducible refine r_notN_str ?_
  | with_reducible refine r_notN_ref ?_
  | with_reducible refine r_isNn ?_
  | with_reducible refine r_isN_int ?_
  | with_reducible refine r_isN_str ?_
  | with_reducible refine r_isN_ref ?_
  | ((with_reducible refine' r_isi ?ht ?hk ?_); (case ht => first | exact .base (.int _) | exact .base (.bl _) | exact .base (.str _) | exact .base .non | exact .base (.lst (by assumption)) | exact .base (.tup (by assumption))); (case hk => first | exact kb_int_int | exact kb_int_bool | exact kb_int_str | exact kb_int_list | exact kb_int_tuple | exact kb_bool_int | exact kb_bool_bool | exact kb_bool_str | exact kb_bool_list | exact kb_bool_tuple | exact kb_str_int | exact kb_str_bool | exact kb_str_str | exact kb_str_list | exact kb_str_tuple | exact kb_NoneType_int | exact kb_NoneType_bool | exact kb_NoneType_str | exact kb_NoneType_list | exact kb_NoneType_tuple | exact kb_list_int | exact kb_list_bool | exact kb_list_str | exact kb_list_list | exact kb_list_tuple | exact kb_tuple_int | exact kb_tuple_bool | exact kb_tuple_str | exact kb_tuple_list | exact kb_tuple_tuple))
  | with_reducible refine r_F ?_
  | with_reducible refine r_nT ?_
  | with_reducible refine r_nF ?_
  | with_reducible refine r_mko ?_
  | with_reducible refine r_xf ?_
  | ((with_reducible refine' r_sum ?hc ?_); (case hc => first | assumption | exact Evl.sq_of (by assumption)))
  | ((with_reducible refine' r_setL ?h1 ?h2 ?h3 ?_); (case h1 => first | assumption | exact upd_same); (case h2 => first | decide | omega); (case h3 => first | (show _ < _; decide) | (simp; done)))
  | with_reducible refine r_int ?_
  | with_reducible refine r_abs ?_)
local macro_rules | `(tactic| walk_at "rd") => `(tactic| repeat (walk_at "rd1"))

section
variable {P : Program} {w : World} {K : PySem.W.Frag} {mg : Str → Option Value} {base : Heap}
/-- what an error can bear in this law -/
def Borne (H : Hp) (u : V) : Prop := (∃ n, u = .int n) ∨ (∃ b, u = .bl b) ∨ u = .non ∨ (∃ l, u = .str (S l) ∧ PyData.canLay0 (.str (S l)) = true) ∨ (∃ a n, u = .ref a ∧ H a = some (.tup [.int n])) ∨ (∃ a n, u = .ref a ∧ H a = some (.lst [.int n]))
def spRefused : Sp := fun vs H Q _ => ∃ (t : Addr) (w : List Nat) (u : V), vs = [.ref t, .str (S w), u] ∧ H t = some (.tup [.str (S w), u]) ∧ Borne H u ∧ Q (.bl true) H
theorem r_eqOwn {K : PySem.W.Frag} {H : Hp} {Q : VK} {u : V} (h : Borne H u) (q : Q (.bl true) H) : rEqD K u u H Q := by
  rcases h with ⟨n, rfl⟩ | ⟨b, rfl⟩ | rfl | ⟨l, rfl, hl⟩ | ⟨a, n, rfl, h⟩ | ⟨a, n, rfl, h⟩
  · exact r_eqSelf (.int n) rfl q
  · exact r_eqSelf (.bl b) rfl q
  · exact r_eqSelf .non rfl q
  · exact r_eqSelf (.str _) (by unfold PySem.SeqAt.shaped; rw [hl]; rfl) q
  · exact r_eqSelf (.tup (Evl.st_of h) (.cons (.int n) .nil)) rfl q
  · exact r_eqSelf (.lst (Evl.sq_of h) (.cons (.int n) .nil)) rfl q
abbrev s_l_refused : Stmt := topS 40
abbrev N_l_refused : List Str := ["_law_told_here", "_law_word", "_law_due"]
theorem sc_l_refused : FnScope ["_law_told_here", "_law_word", "_law_due"] ["_law_told_here", "_law_word", "_law_due"] (defScope s_l_refused) := ⟨rfl, rfl, rfl, by decide +kernel, rfl, by decide +kernel, by decide +kernel⟩
theorem can_l_refused (T : Bi mg) (F : Defd K mg "_law_refused" s_l_refused ["_law_told_here", "_law_word", "_law_due"]) (C_l_is_int : Can P w K mg base L2.CX0 1 "_law_is_int" ["_law_thing"] spIsInt) : Can P w K mg base L2.CX0 2 "_law_refused" ["_law_told_here", "_law_word", "_law_due"] spRefused := by
  refine can0 F sc_l_refused (fun vs H Q E h => ?_) (fun f cdv A outer s H vs Q E hr h => ⟨_, (pss_cons (ps_if (pt_cmpR op_ne (pe_ix ix_tup (pv 0) pe_int (fun _ _ => rfl)) (pv 1) (nomark _)) (pss_one (ps_ret pe_bl)) pss_nil)
  (pss_cons (ps_if (PW.pt (pw_and (pt_val (pe_callB call_isi (by rfl) T.b_isinstance boot_isinstance (pa_cons (pv 2) (pa_cons (pe_bltn (v := .ty "int") (by rfl) T.b_int boot_int rfl) pa_nil)))) (pw_and1 (pt_not (pt_val (pe_callB call_isi (by rfl) T.b_isinstance boot_isinstance (pa_cons (pv 2) (pa_cons (pe_bltn (v := .ty "bool") (by rfl) T.b_bool boot_bool rfl) pa_nil)))))))) (pss_one (ps_ret (pe_and (pe_can C_l_is_int hr (by decide) rfl (pa_cons (pe_ix ix_tup (pv 0) pe_int (fun _ _ => rfl)) pa_nil)) (pe_one (pe_cmpR (op_eqD (hu64 hr)) (pe_ix ix_tup (pv 0) pe_int (fun _ _ => rfl)) (pv 2) (nomark _)))))) pss_nil)
  (pss_cons (ps_if (pt_val (pe_callB call_isi (by rfl) T.b_isinstance boot_isinstance (pa_cons (pv 2) (pa_cons (pe_bltn (v := .ty "bool") (by rfl) T.b_bool boot_bool rfl) pa_nil)))) (pss_one (ps_ret (pe_and (pe_callB call_isi (by rfl) T.b_isinstance boot_isinstance (pa_cons (pe_ix ix_tup (pv 0) pe_int (fun _ _ => rfl)) (pa_cons (pe_bltn (v := .ty "bool") (by rfl) T.b_bool boot_bool rfl) pa_nil))) (pe_one (pe_cmpR (op_eqD (hu64 hr)) (pe_ix ix_tup (pv 0) pe_int (fun _ _ => rfl)) (pv 2) (nomark _)))))) pss_nil)
  (pss_one (ps_ret (pe_and (pe_not (pe_callB call_isi (by rfl) T.b_isinstance boot_isinstance (pa_cons (pe_ix ix_tup (pv 0) pe_int (fun _ _ => rfl)) (pa_cons (pe_bltn (v := .ty "int") (by rfl) T.b_int boot_int rfl) pa_nil)))) (pe_one (pe_cmpR (op_eqD (hu64 hr)) (pe_ix ix_tup (pv 0) pe_int (fun _ _ => rfl)) (pv 2) (nomark _))))))))), ?_⟩)
  · obtain ⟨_, _, _, rfl, _⟩ := h
    rfl
  · obtain ⟨t, w, u, rfl, ht, hu, q⟩ := h
    walk_at "rd"
    refine r_iteN (fun z => absurd rfl z) (fun _ => ?_)
    rcases id hu with ⟨n, rfl⟩ | ⟨b, rfl⟩ | rfl | ⟨l, rfl, hl⟩ | ⟨a, n, rfl, ha⟩ | ⟨a, n, rfl, ha⟩
    · walk_at "rd"
      refine ⟨_, true, rfl, .inl ⟨_, rfl, rfl⟩, ?_⟩
      walk_at "rd"
      refine r_eqOwn hu ?_
      exact q
    · walk_at "rd"
      refine r_eqOwn hu ?_
      exact q
    · walk_at "rd"
      refine r_eqOwn hu ?_
      exact q
    · walk_at "rd"
      refine r_eqOwn hu ?_
      exact q
    · walk_at "rd"
      refine r_eqOwn hu ?_
      exact q
    · walk_at "rd"
      refine r_eqOwn hu ?_
      exact q

def spRefusalsRight : Sp := fun vs H Q _ => ∃ (c d : Addr) (a b : List Nat) (ns : List Int), vs = [.ref d, .str (S a), .str (S b)] ∧ Dr ns c d H ∧ Rnd a ∧ Rnd b ∧ ∀ H', Q (.bl true) H'
theorem told_bad {C CB : Addr} {k n : Int} {x y : V} {H : Hp} {Q : VK} {E : XK} (k0 : 0 ≤ k) (k4 : k < 5) (h : BadRd H x n) (q : ∀ t H', Ex H H' → H' t = some (.tup [.str (S wRound), .int n]) → Q (.ref t) H') : spTold C CB [.int k, x, y] H Q E := by
  have w : Wish C "number" (.int n) H (eTold C CB Q) := fun d H' hd ex hx => .inl ⟨rfl, d, .int n, rfl, hx, fun t H2 ex2 ht => q t H2 (ex.trans ex2) ht⟩
  refine ⟨rfl, k, x, y, rfl, ?_⟩
  have hk : k = 0 ∨ k = 1 ∨ k = 2 ∨ k = 3 ∨ k = 4 := by omega
  rcases hk with rfl | rfl | rfl | rfl | rfl
  · exact .inl ⟨rfl, x, rfl, .inr ⟨n, h, w⟩⟩
  · exact .inr (.inl ⟨rfl, x, rfl, .inr ⟨n, h, w⟩⟩)
  · exact .inr (.inr (.inl ⟨rfl, x, y, rfl, .inr ⟨n, h, w⟩⟩))
  · exact .inr (.inr (.inr (.inl ⟨rfl, x, y, rfl, .inr ⟨n, h, w⟩⟩)))
  · exact .inr (.inr (.inr (.inr ⟨rfl, x, y, rfl, .inr ⟨n, h, w⟩⟩)))
theorem told_bad2 {C CB : Addr} {k n : Int} {l : List Nat} {y : V} {H : Hp} {Q : VK} {E : XK} (hk : k = 3 ∨ k = 4) (hl : Rnd l) (h : BadRd H y n) (q : ∀ t H', Ex H H' → H' t = some (.tup [.str (S wRound), .int n]) → Q (.ref t) H') : spTold C CB [.int k, .str (S l), y] H Q E := by
  have w : Wish C "number" (.int n) H (eTold C CB Q) := fun d H' hd ex hx => .inl ⟨rfl, d, .int n, rfl, hx, fun t H2 ex2 ht => q t H2 (ex.trans ex2) ht⟩
  refine ⟨rfl, k, _, y, rfl, ?_⟩
  rcases hk with rfl | rfl
  · exact .inr (.inr (.inr (.inl ⟨rfl, _, y, rfl, .inl ⟨l, rfl, hl, .inr ⟨n, h, w⟩⟩⟩)))
  · exact .inr (.inr (.inr (.inr ⟨rfl, _, y, rfl, .inl ⟨l, rfl, hl, .inr ⟨n, h, w⟩⟩⟩)))
theorem told_beats {C CB : Addr} {l : List Nat} {y : V} {H : Hp} {Q : VK} {E : XK} (hl : Rnd l) (h : (∃ n, y = .int n ∧ n < 0) ∨ IntB H y false) (q : ∀ t H', Ex H H' → H' t = some (.tup [.str (S wBeats), y]) → Q (.ref t) H') : spTold C CB [.int 2, .str (S l), y] H Q E := by
  have w : Wish CB "beats" y H (eTold C CB Q) := fun d H' hd ex hx => .inr ⟨rfl, d, y, rfl, hx, fun t H2 ex2 ht => q t H2 (ex.trans ex2) ht⟩
  exact ⟨rfl, 2, _, y, rfl, .inr (.inr (.inl ⟨rfl, _, y, rfl, .inl ⟨l, rfl, hl, .inr ⟨h, w⟩⟩⟩))⟩
abbrev s_l_refusals_right : Stmt := topS 41
abbrev N_l_refusals_right : List Str := ["_law_draw_here", "_law_first", "_law_second", "_law_bad", "_law_other", "_law_kind", "_law_thing"]
theorem sc_l_refusals_right : FnScope ["_law_draw_here", "_law_first", "_law_second", "_law_bad", "_law_other", "_law_kind", "_law_thing"] ["_law_draw_here", "_law_first", "_law_second"] (defScope s_l_refusals_right) := ⟨rfl, rfl, rfl, by decide +kernel, rfl, by decide +kernel, by decide +kernel⟩
theorem can_l_refusals_right (T : Bi mg) (F : Defd K mg "_law_refusals_right" s_l_refusals_right ["_law_draw_here", "_law_first", "_law_second"]) (C_l_pick : Can P w K mg base L2.CX0 2 "_law_pick" ["_law_draw_here", "_law_many"] spPick) {A_BadRound A_BadBeats : Addr} (C_l_told : Can P w K mg base L2.CX0 7 "_law_told" ["_law_kind", "_law_first", "_law_second"] (spTold A_BadRound A_BadBeats)) (C_l_bad_round : Can P w K mg base L2.CX0 3 "_law_bad_round" ["_law_draw_here", "_law_row"] spBadRound) (C_l_refused : Can P w K mg base L2.CX0 2 "_law_refused" ["_law_told_here", "_law_word", "_law_due"] spRefused) : Can P w K mg base L2.CX0 8 "_law_refusals_right" ["_law_draw_here", "_law_first", "_law_second"] spRefusalsRight := by
  refine can0 F sc_l_refusals_right (fun vs H Q E h => ?_) (fun f cdv A outer s H vs Q E hr h => ⟨_, (pss_cons (ps_set (i := 3) sc_l_refusals_right.nd rfl (by first | exact Or.inl rfl | exact Or.inr rfl) (pe_can C_l_bad_round hr (by decide) rfl (pa_cons (pv 0) (pa_cons (pv 1) pa_nil))))
  (pss_cons (ps_set (i := 4) sc_l_refusals_right.nd rfl (by first | exact Or.inl rfl | exact Or.inr rfl) (pe_can C_l_bad_round hr (by decide) rfl (pa_cons (pv 0) (pa_cons (pv 2) pa_nil))))
  (pss_cons (ps_for PassesOwn.never rfl (pi_range1 rfl T.b_range (pa_cons pe_int pa_nil)) (pg_name (i := 5) sc_l_refusals_right.nd rfl (by first | exact Or.inl rfl | exact Or.inr rfl))
    (pss_one (ps_if (pt_not (pt_val (pe_can C_l_refused hr (by decide) rfl (pa_cons (pe_can C_l_told hr (by decide) rfl (pa_cons (pv 5) (pa_cons (pe_ix ix_tup (pv 3) pe_int (fun _ _ => rfl)) (pa_cons (pe_ix ix_list (pe_lst (pa_cons (pv 2) (pa_cons (pe_ix ix_tup (pv 4) pe_int (fun _ _ => rfl)) (pa_cons (pe_un un_neg pe_int) pa_nil)))) (pe_can C_l_pick hr (by decide) rfl (pa_cons (pv 0) (pa_cons pe_int pa_nil))) (fun _ _ => rfl)) pa_nil)))) (pa_cons (pe_strL [114, 111, 117, 110, 100] (by decide +kernel)) (pa_cons (pe_ix ix_tup (pv 3) pe_int (fun _ _ => rfl)) pa_nil)))))) (pss_one (ps_ret pe_bl)) pss_nil)))
  (pss_cons (ps_for PassesOwn.never rfl (pi_list (pe_lst (pa_cons pe_int (pa_cons pe_int pa_nil)))) (pg_name (i := 5) sc_l_refusals_right.nd rfl (by first | exact Or.inl rfl | exact Or.inr rfl))
    (pss_one (ps_if (pt_not (pt_val (pe_can C_l_refused hr (by decide) rfl (pa_cons (pe_can C_l_told hr (by decide) rfl (pa_cons (pv 5) (pa_cons (pv 1) (pa_cons (pe_ix ix_tup (pv 4) pe_int (fun _ _ => rfl)) pa_nil)))) (pa_cons (pe_strL [114, 111, 117, 110, 100] (by decide +kernel)) (pa_cons (pe_ix ix_tup (pv 4) pe_int (fun _ _ => rfl)) pa_nil)))))) (pss_one (ps_ret pe_bl)) pss_nil)))
  (pss_cons (ps_set (i := 6) sc_l_refusals_right.nd rfl (by first | exact Or.inl rfl | exact Or.inr rfl) (pe_ix ix_list (pe_lst (pa_cons (pe_un un_neg pe_int) (pa_cons (pe_un un_neg (pe_op op_powW pe_int pe_int)) (pa_cons pe_bl (pa_cons pe_bl (pa_cons pe_non (pa_cons (pe_strL [48] (by decide +kernel)) (pa_cons (pe_tup (pa_cons pe_int pa_nil)) (pa_cons (pe_lst (pa_cons pe_int pa_nil)) (pa_cons (pe_strL [119] (by decide +kernel)) pa_nil)))))))))) (pe_can C_l_pick hr (by decide) rfl (pa_cons (pv 0) (pa_cons pe_int pa_nil))) (fun _ _ => rfl)))
  (pss_one (ps_ret (pe_can C_l_refused hr (by decide) rfl (pa_cons (pe_can C_l_told hr (by decide) rfl (pa_cons pe_int (pa_cons (pv 1) (pa_cons (pv 6) pa_nil)))) (pa_cons (pe_strL [98, 101, 97, 116, 115] (by decide +kernel)) (pa_cons (pv 6) pa_nil))))))))))), ?_⟩)
  · obtain ⟨_, _, _, _, _, rfl, _⟩ := h
    rfl
  · obtain ⟨c, d, a, b, ns, rfl, hD, ha, hb, q⟩ := h
    walk_at "rd"
    refine ⟨c, d, a, ns, rfl, hD, ha, fun v n p H1 hv1 kp1 hD1 pd hp1 => ?_⟩
    walk_at "rd"
    refine ⟨c, d, b, ns, rfl, hD1, hb, fun u m r H2 hu2 kp2 hD2 rd hr2 => ?_⟩
    have hv2 := hv1.kp kp2
    have hp2 := kp2 _ _ pd hp1
    clear hv1 kp1 hD1 hp1 kp2 hD
    walk_at "rd"
    let J : Nat → L2.St → Hp → Prop := fun _ σ' H' => ∃ o, σ' = [some (.ref d), some (.str (S a)), some (.str (S b)), some (.ref p), some (.ref r), o, none] ∧ BadV d H' v n ∧ BadV d H' u m ∧ H' p = some (.tup [v, .int n]) ∧ H' r = some (.tup [u, .int m]) ∧ Dr ns c d H'
    refine forR J ⟨_, rfl, hv2, hu2, hp2, hr2, hD2⟩ (fun i σ' H3 hi hJ => ?_) (fun σ' H3 hJ => ?_)
    · obtain ⟨o, rfl, hv, hu, hp, hr', hD⟩ := hJ
      walk_at "rd"
      refine ⟨small (by show 3 ≤ 1000000; decide), fun t1 hn1 => ?_⟩
      have ex1 := Evl.Ex.new (o := .lst [.str (S b), u, .int (-1)]) hn1
      have ht1 : (upd H3 t1 (.lst [.str (S b), u, .int (-1)])) t1 = some (.lst [.str (S b), u, .int (-1)]) := upd_same
      have o1 : t1 ≠ d := hD.nd hn1
      generalize upd H3 t1 (.lst [.str (S b), u, .int (-1)]) = H4 at ex1 ht1 ⊢
      walk_at "rd"
      refine ⟨c, d, 3, ns, rfl, hD.ex' ex1, by decide, fun j H5 j0 j1 kp5 hD5 => ?_⟩
      have kp := (Kp.of (d := d) ex1).trans kp5
      have ht := kp5 _ _ o1 ht1
      have hj2 : j.toNat < ([.str (S b), u, .int (-1)] : List V).length := by show j.toNat < 3; omega
      walk_at "rd"
      refine r_ixL (v := ([.str (S b), u, .int (-1)] : List V)[j.toNat]) (Evl.sq_of ht) j0 (List.getElem?_eq_getElem hj2) ?_
      walk_at "rd"
      refine told_bad (by omega) (by omega) (hv.kp kp).bad fun t H6 ex6 ht6 => ?_
      have kp6 := kp.trans (Kp.of ex6)
      have hp6 := kp6 _ _ pd hp
      walk_at "rd"
      refine ⟨t, _, _, rfl, ht6, .inl ⟨_, rfl⟩, ?_⟩
      walk_at "rd"
      exact ⟨_, rfl, hv.kp kp6, hu.kp kp6, hp6, kp6 _ _ rd hr', hD5.ex' ex6⟩
    · obtain ⟨o, rfl, hv, hu, hp, hr', hD⟩ := hJ
      walk_at "rd"
      refine ⟨small (by show 2 ≤ 1000000; decide), fun t1 hn1 => ?_⟩
      have ex1 := Evl.Ex.new (o := .lst [.int 3, .int 4]) hn1
      have ht1 : (upd H3 t1 (.lst [.int 3, .int 4])) t1 = some (.lst [.int 3, .int 4]) := upd_same
      generalize upd H3 t1 (.lst [.int 3, .int 4]) = H4 at ex1 ht1 ⊢
      walk_at "rd"
      let J2 : Nat → L2.St → Hp → Prop := fun _ σ' H' => ∃ o, σ' = [some (.ref d), some (.str (S a)), some (.str (S b)), some (.ref p), some (.ref r), o, none] ∧ Ex H4 H'
      refine forL (xs := [.int 3, .int 4]) J2 ⟨_, rfl, Evl.Ex.refl _⟩ (fun i σ' H' hi hJ => ?_) (fun i y σ' H5 hy hJ => ?_) (fun σ' H5 hJ => ?_)
      · obtain ⟨o, rfl, ex⟩ := hJ
        exact Evl.sq_of (ex _ _ ht1)
      · obtain ⟨o, rfl, ex⟩ := hJ
        have exA := ex1.trans ex
        have hy2 : ∃ k : Int, y = .int k ∧ (k = 3 ∨ k = 4) := by
          match i, hy with
          | 0, hy => exact ⟨3, (Option.some.inj hy).symm, .inl rfl⟩
          | 1, hy => exact ⟨4, (Option.some.inj hy).symm, .inr rfl⟩
        obtain ⟨k, rfl, hk⟩ := hy2
        have hr5 := exA _ _ hr'
        walk_at "rd"
        refine told_bad2 hk ha (hu.kp (Kp.of exA)).bad fun t H6 ex6 ht6 => ?_
        have hr6 := ex6 _ _ hr5
        walk_at "rd"
        refine ⟨t, _, _, rfl, ht6, .inl ⟨_, rfl⟩, ?_⟩
        walk_at "rd"
        exact ⟨_, rfl, ex.trans ex6⟩
      · obtain ⟨o, rfl, ex⟩ := hJ
        have hD5 := hD.ex' (ex1.trans ex)
        clear hv hu hp hr' hD
        walk_at "rd"
        refine ⟨small (by show 1 ≤ 1000000; decide), fun g1 hg1 => ?_⟩
        have ex6 := Evl.Ex.new (o := .tup [.int 1]) hg1
        have e1 : (upd H5 g1 (.tup [.int 1])) g1 = some (.tup [.int 1]) := upd_same
        have n1 : g1 ≠ d := hD5.nd hg1
        generalize upd H5 g1 (.tup [.int 1]) = H6 at ex6 e1 ⊢
        have hD6 := hD5.ex' ex6
        walk_at "rd"
        refine ⟨small (by show 1 ≤ 1000000; decide), fun g2 hg2 => ?_⟩
        have ex7 := Evl.Ex.new (o := .lst [.int 0]) hg2
        have e2 : (upd H6 g2 (.lst [.int 0])) g2 = some (.lst [.int 0]) := upd_same
        have n2 : g2 ≠ d := hD6.nd hg2
        generalize upd H6 g2 (.lst [.int 0]) = H7 at ex7 e2 ⊢
        have hD7 := hD6.ex' ex7
        replace e1 := ex7 _ _ e1
        walk_at "rd"
        refine ⟨small (by show 9 ≤ 1000000; decide), fun g3 hg3 => ?_⟩
        have ex8 := Evl.Ex.new (o := .lst [.int (-1), .int (-10 ^ Int.toNat 30), .bl true, .bl false, .non, .str (S [48]), .ref g1, .ref g2, .str (S [119])]) hg3
        have e3 : (upd H7 g3 (.lst [.int (-1), .int (-10 ^ Int.toNat 30), .bl true, .bl false, .non, .str (S [48]), .ref g1, .ref g2, .str (S [119])])) g3 = some (.lst [.int (-1), .int (-10 ^ Int.toNat 30), .bl true, .bl false, .non, .str (S [48]), .ref g1, .ref g2, .str (S [119])]) := upd_same
        have n3 : g3 ≠ d := hD7.nd hg3
        generalize upd H7 g3 (.lst [.int (-1), .int (-10 ^ Int.toNat 30), .bl true, .bl false, .non, .str (S [48]), .ref g1, .ref g2, .str (S [119])]) = H8 at ex8 e3 ⊢
        have hD8 := hD7.ex' ex8
        replace e1 := ex8 _ _ e1
        replace e2 := ex8 _ _ e2
        walk_at "rd"
        refine ⟨c, d, 9, ns, rfl, hD8, by decide, fun j H9 j0 j1 kp9 hD9 => ?_⟩
        replace e1 := kp9 _ _ n1 e1
        replace e2 := kp9 _ _ n2 e2
        replace e3 := kp9 _ _ n3 e3
        have hj : j.toNat < 9 := by omega
        have fin : ∀ y ∈ ([.int (-1), .int (-10 ^ Int.toNat 30), .bl true, .bl false, .non, .str (S [48]), .ref g1, .ref g2, .str (S [119])] : List V), ((∃ n, y = .int n ∧ n < 0) ∨ IntB H9 y false) ∧ ∀ H', Ex H9 H' → Borne H' y := by
          intro y hy
          simp only [List.mem_cons, List.not_mem_nil, or_false] at hy
          rcases hy with rfl | rfl | rfl | rfl | rfl | rfl | rfl | rfl | rfl
          · exact ⟨.inl ⟨_, rfl, by decide⟩, fun H' _ => .inl ⟨_, rfl⟩⟩
          · exact ⟨.inl ⟨_, rfl, by decide +kernel⟩, fun H' _ => .inl ⟨_, rfl⟩⟩
          · exact ⟨.inr (.inr (.inl ⟨⟨_, rfl⟩, rfl⟩)), fun H' _ => .inr (.inl ⟨_, rfl⟩)⟩
          · exact ⟨.inr (.inr (.inl ⟨⟨_, rfl⟩, rfl⟩)), fun H' _ => .inr (.inl ⟨_, rfl⟩)⟩
          · exact ⟨.inr (.inr (.inr (.inl ⟨rfl, rfl⟩))), fun H' _ => .inr (.inr (.inl rfl))⟩
          · exact ⟨.inr (.inr (.inr (.inr (.inl ⟨⟨_, rfl⟩, rfl⟩)))), fun H' _ => .inr (.inr (.inr (.inl ⟨_, rfl, by decide +kernel⟩)))⟩
          · exact ⟨.inr (.inr (.inr (.inr (.inr (.inr ⟨⟨_, _, rfl, e1⟩, rfl⟩))))), fun H' ex => .inr (.inr (.inr (.inr (.inl ⟨_, _, rfl, ex _ _ e1⟩))))⟩
          · exact ⟨.inr (.inr (.inr (.inr (.inr (.inl ⟨⟨_, _, rfl, e2⟩, rfl⟩))))), fun H' ex => .inr (.inr (.inr (.inr (.inr ⟨_, _, rfl, ex _ _ e2⟩))))⟩
          · exact ⟨.inr (.inr (.inr (.inr (.inl ⟨⟨_, rfl⟩, rfl⟩)))), fun H' _ => .inr (.inr (.inr (.inl ⟨_, rfl, by decide +kernel⟩)))⟩
        have hml : ([.int (-1), .int (-10 ^ Int.toNat 30), .bl true, .bl false, .non, .str (S [48]), .ref g1, .ref g2, .str (S [119])] : List V).length = 9 := rfl
        generalize ([.int (-1), .int (-10 ^ Int.toNat 30), .bl true, .bl false, .non, .str (S [48]), .ref g1, .ref g2, .str (S [119])] : List V) = ml at *
        have hj2 : j.toNat < ml.length := by omega
        walk_at "rd"
        refine r_ixL (v := ml[j.toNat]) (Evl.sq_of e3) j0 (List.getElem?_eq_getElem hj2) ?_
        obtain ⟨f1, f2⟩ := fin ml[j.toNat] (List.getElem_mem _)
        generalize ml[j.toNat] = y at f1 f2 ⊢
        walk_at "rd"
        refine told_beats ha f1 fun t H10 ex10 ht => ?_
        walk_at "rd"
        refine ⟨t, _, _, rfl, ht, f2 _ ex10, ?_⟩
        walk_at "rd"
        exact q _
end
end Fk

set_option Elab.async false
set_option linter.all false
set_option maxRecDepth 100000
set_option maxHeartbeats 4000000
namespace Fk
open PySem PySem.Spec PyProof.Rows L2 Fg Fm
local macro_rules | `(tactic| walk_at "rd1") => `(tactic| first
  | with_reducible refine r_seq ?_
  | with_reducible refine r_asg ?_
  | with_reducible refine r_gname ?_
  | with_reducible refine r_gsub ?_
  | with_reducible refine r_ret ?_
  | with_reducible refine r_retN ?_
  | with_reducible refine r_next ?_
  | with_reducible refine r_drop ?_
  | with_reducible refine r_ifS ?_
  | with_reducible refine r_if ?_
  | with_reducible refine r_par ?_
  | with_reducible refine r_pair ?_
  | with_reducible refine r_test ?_
  | with_reducible refine r_tB ?_
  | with_reducible refine r_not ?_
  | with_reducible refine r_and ?_
  | with_reducible refine r_or ?_
  | with_reducible refine r_andV ?_
  | with_reducible refine r_orV ?_
  | with_reducible refine r_notV ?_
  | with_reducible refine r_nil ?_
  | with_reducible refine r_cons ?_
  | with_reducible refine r_call ?_
  | with_reducible refine r_callS ?_
  | with_reducible refine r_cb ?_
  | with_reducible refine r_then ?_
  | with_reducible refine r_tup ?_
  | with_reducible refine r_lst ?_
  | with_reducible refine r_sl ?_
  | with_reducible refine r_nopart ?_
  | with_reducible refine r_part ?_
  | with_reducible refine r_lcR1 ?_
  | with_reducible refine r_lcR2 ?_
  | with_reducible refine r_lcL ?_
  | with_reducible refine r_lcT ?_
  | with_reducible refine r_forR1 ?_
  | with_reducible refine r_forR2 ?_
  | with_reducible refine r_forL ?_
  | with_reducible refine r_forT ?_
  | with_reducible refine r_forE ?_
  | with_reducible refine r_strE ?_
  | ((with_reducible refine r_rng1 ?hc ?_); (case hc => omega))
  | ((with_reducible refine r_rng2 ?hc ?_); (case hc => omega))
  | ((with_reducible refine' r_refL ?hc ?_); (case hc => first | assumption | exact Evl.sq_of (by assumption)))
  | ((with_reducible refine' r_refT ?hc ?_); (case hc => first | assumption | exact Evl.st_of (by assumption)))
  | with_reducible refine r_op ?_
  | with_reducible refine r_un ?_
  | with_reducible refine r_chain ?_
  | ((with_reducible refine' r_var ?hv ?_); (case hv => exact rfl))
  | with_reducible refine r_cS ?_
  | with_reducible refine r_cs ?_
  | with_reducible refine r_c ?_
  | with_reducible refine r_yes ?_
  | with_reducible refine r_bm ?_
  | with_reducible refine r_bl ?_
  | with_reducible refine r_in ?_
  | with_reducible refine r_ty ?_
  | with_reducible refine r_I0 ?_
  | ((with_reducible refine r_I ?hc ?_); (case hc => first | assumption | (show (0 : Int) < _; decide) | exact Or.inr ⟨by decide, by decide⟩ | exact Or.inr ⟨by omega, by omega⟩ | exact Or.inl ⟨by decide, by decide⟩ | exact (show CDivW _ _ from ⟨by decide, by decide +kernel⟩) | exact (show CPowW _ _ from ⟨by decide, by decide +kernel⟩) | (show (0 : Int) < _; omega)))
  | with_reducible refine r_U ?_
  | with_reducible refine r_eqI ?_
  | with_reducible refine r_neI ?_
  | with_reducible refine r_eqS ?_
  | with_reducible refine r_neS ?_
  | with_reducible refine r_eqB ?_
  | with_reducible refine r_neB ?_
  | with_reducible refine r_niS ?_
  | with_reducible refine r_inSS ?_
  | ((with_reducible refine r_slSS ?hc ?_); (case hc => first | exact small (by omega) | exact small (by simp; omega)))
  | ((with_reducible refine r_lenS ?hc ?_); (case hc => first | exact small (by omega) | exact small (by simp; omega)))
  | ((with_reducible refine' r_lenL ?hc ?_); (case hc => first | assumption | exact Evl.sq_of (by assumption)))
  | ((with_reducible refine' r_lenT ?hc ?_); (case hc => first | assumption | exact Evl.st_of (by assumption)))
  | ((with_reducible refine' r_ixL ?h1 ?h2 ?h3 ?_); (case h1 => first | assumption | exact Evl.sq_of (by assumption) | exact Evl.sq_of upd_same); (case h2 => first | decide | omega); (case h3 => first | exact rfl | assumption))
  | ((with_reducible refine' r_ixT ?h1 ?h2 ?h3 ?_); (case h1 => first | assumption | exact Evl.st_of (by assumption)); (case h2 => first | decide | omega); (case h3 => first | exact rfl | assumption))
  | with_reducible refine r_T ?_
  | with_reducible refine r_notNn ?_
  | with_reducible refine r_notN_int ?_
  | with_reducible refine r_notN_str ?_
  | with_reducible refine r_notN_ref ?_
  | with_reducible refine r_isNn ?_
  | with_reducible refine r_isN_int ?_
  | with_reducible refine r_isN_str ?_
  | with_reducible refine r_isN_ref ?_
  | ((with_reducible refine' r_isi ?ht ?hk ?_); (case ht => first | exact .base (.int _) | exact .base (.bl _) | exact .base (.str _) | exact .base .non | exact .base (.lst (by assumption)) | exact .base (.tup (by assumption))); (case hk => first | exact kb_int_int | exact kb_int_bool | exact kb_int_str | exact kb_int_list | exact kb_int_tuple | exact kb_bool_int | exact kb_bool_bool | exact kb_bool_str | exact kb_bool_list | exact kb_bool_tuple | exact kb_str_int | exact kb_str_bool | exact kb_str_str | exact kb_str_list | exact kb_str_tuple | exact kb_NoneType_int | exact kb_NoneType_bool | exact kb_NoneType_str | exact kb_NoneType_list | exact kb_NoneType_tuple | exact kb_list_int | exact kb_list_bool | exact kb_list_str | exact kb_list_list | exact kb_list_tuple | exact kb_tuple_int | exact kb_tuple_bool | exact kb_tuple_str | exact kb_tuple_list | exact kb_tuple_tuple))
  | with_reducible refine r_F ?_
  | with_reducible refine r_nT ?_
  | with_reducible refine r_nF ?_
  | with_reducible refine r_mko ?_
  | with_reducible refine r_xf ?_
  | ((with_reducible refine' r_sum ?hc ?_); (case hc => first | assumption | exact Evl.sq_of (by assumption)))
  | ((with_reducible refine' r_setL ?h1 ?h2 ?h3 ?_); (case h1 => first | assumption | exact upd_same); (case h2 => first | decide | omega); (case h3 => first | (show _ < _; decide) | (simp; done)))
  | with_reducible refine r_int ?_
  | with_reducible refine r_abs ?_)
local macro_rules | `(tactic| walk_at "rd") => `(tactic| repeat (walk_at "rd1"))

section
variable {P : Program} {w : World} {K : PySem.W.Frag} {mg : Str → Option Value} {base : Heap}
def spLaw (K : PySem.W.Frag) : Sp := fun vs H Q _ => ∃ (a : Addr) (ns : List Int), vs = [.ref a] ∧ SqL K H a (ns.map V.int) ∧ ns.length ≤ 63 ∧ ∀ H', Q (.bl true) H'
/-- a pair of rounds in the heap -/
def TwoR (d : Addr) (H : Hp) (y : V) : Prop := ∃ (t : Addr) (a b : List Nat), y = .ref t ∧ t ≠ d ∧ H t = some (.tup [.str (S a), .str (S b)]) ∧ Rnd a ∧ Rnd b
theorem TwoR.kp {d : Addr} {H H' : Hp} {y : V} (h : TwoR d H y) (k : Kp d H H') : TwoR d H' y := by
  obtain ⟨t, a, b, h1, h2, h3, h4⟩ := h
  exact ⟨t, a, b, h1, h2, k _ _ h2 h3, h4⟩
abbrev s_law : Stmt := topS 42
abbrev N_law : List Str := ["_law_script", "_law_draw_here", "_law_rows", "_law_third", "_law_pair"]
theorem sc_law : FnScope ["_law_script", "_law_draw_here", "_law_rows", "_law_third", "_law_pair"] ["_law_script"] (defScope s_law) := ⟨rfl, rfl, rfl, by decide +kernel, rfl, by decide +kernel, by decide +kernel⟩
theorem ok_law (T : Bi mg) {f : Addr} {fd : FuncData} (F : Fun K "law" "law" s_law f fd) (C_l_draw : Can P w K mg base L2.CX0 1 "_law_draw" ["_law_script"] (spDraw K)) (C_l_rounds : Can P w K mg base L2.CX0 5 "_law_rounds" ["_law_draw_here"] spRounds) (C_l_round : Can P w K mg base L2.CX0 4 "_law_round" ["_law_draw_here", "_law_most"] spRound) (C_l_number : Can P w K mg base L2.CX0 3 "_law_number" ["_law_draw_here"] spNumber) (C_l_pair_right : Can P w K mg base L2.CX0 8 "_law_pair_right" ["_law_first", "_law_second", "_law_many"] spPairRight) (C_l_refusals_right : Can P w K mg base L2.CX0 8 "_law_refusals_right" ["_law_draw_here", "_law_first", "_law_second"] spRefusalsRight) : FnOk P w K mg base L2.CX0 9 f fd ["_law_script"] (spLaw K) := by
  refine F.ok sc_law (fun vs H Q E h => ?_) (fun cdv A outer s H vs Q E hr h => ⟨_, (pss_cons (ps_set (i := 1) sc_law.nd rfl (by first | exact Or.inl rfl | exact Or.inr rfl) (pe_can C_l_draw hr (by decide) rfl (pa_cons (pv 0) pa_nil)))
  (pss_cons (ps_set (i := 2) sc_law.nd rfl (by first | exact Or.inl rfl | exact Or.inr rfl) (pe_can C_l_rounds hr (by decide) rfl (pa_cons (pv 1) pa_nil)))
  (pss_cons (ps_set (i := 3) sc_law.nd rfl (by first | exact Or.inl rfl | exact Or.inr rfl) (pe_can C_l_round hr (by decide) rfl (pa_cons (pv 1) (pa_cons pe_int pa_nil))))
  (pss_cons (ps_for PassesOwn.never rfl (pi_list (pe_lst (pa_cons (pe_tup (pa_cons (pe_ix ix_list (pv 2) pe_int (fun _ _ => rfl)) (pa_cons (pe_ix ix_list (pv 2) pe_int (fun _ _ => rfl)) pa_nil))) (pa_cons (pe_tup (pa_cons (pe_ix ix_list (pv 2) pe_int (fun _ _ => rfl)) (pa_cons (pe_ix ix_list (pv 2) pe_int (fun _ _ => rfl)) pa_nil))) (pa_cons (pe_tup (pa_cons (pv 3) (pa_cons (pe_ix ix_list (pv 2) pe_int (fun _ _ => rfl)) pa_nil))) (pa_cons (pe_tup (pa_cons (pe_ix ix_list (pv 2) pe_int (fun _ _ => rfl)) (pa_cons (pe_ix ix_list (pv 2) pe_int (fun _ _ => rfl)) pa_nil))) (pa_cons (pe_tup (pa_cons (pe_ix ix_list (pv 2) pe_int (fun _ _ => rfl)) (pa_cons (pv 3) pa_nil))) pa_nil))))))) (pg_name (i := 4) sc_law.nd rfl (by first | exact Or.inl rfl | exact Or.inr rfl))
    (pss_one (ps_if (pt_not (pt_val (pe_can C_l_pair_right hr (by decide) rfl (pa_cons (pe_ix ix_tup (pv 4) pe_int (fun _ _ => rfl)) (pa_cons (pe_ix ix_tup (pv 4) pe_int (fun _ _ => rfl)) (pa_cons (pe_can C_l_number hr (by decide) rfl (pa_cons (pv 1) pa_nil)) pa_nil)))))) (pss_one (ps_ret pe_bl)) pss_nil)))
  (pss_one (ps_ret (pe_can C_l_refusals_right hr (by decide) rfl (pa_cons (pv 1) (pa_cons (pe_ix ix_list (pv 2) pe_int (fun _ _ => rfl)) (pa_cons (pe_ix ix_list (pv 2) pe_int (fun _ _ => rfl)) pa_nil)))))))))), ?_⟩)
  · obtain ⟨_, _, rfl, _⟩ := h
    rfl
  · obtain ⟨a0, ns, rfl, hS, hn, q⟩ := h
    walk_at "rd"
    refine ⟨a0, ns, rfl, hS, hn, fun c d H1 hc hd ex0 hD1 => ?_⟩
    walk_at "rd"
    refine ⟨c, d, ns, rfl, hD1, fun a b r H2 ha hb kp1 hD2 rd hr2 => ?_⟩
    have la := ha.le
    have lb := hb.le
    walk_at "rd"
    refine ⟨c, d, 24, ns, rfl, hD2, by decide, by decide, fun l3 H3 sg pos le3 kp2 hD3 => ?_⟩
    have hl3 : Rnd l3 := ⟨sg, pos, le3⟩
    have hr3 := kp2 _ _ rd hr2
    clear hr2 hD2 kp1 kp2 hD1 ex0
    walk_at "rd"
    refine ⟨small (by show 2 ≤ 1000000; decide), fun t0 hn0 => ?_⟩
    have ex0 := Evl.Ex.new (o := .tup [.str (S a), .str (S b)]) hn0
    have f0 : TwoR d (upd H3 t0 (.tup [.str (S a), .str (S b)])) (.ref t0) := ⟨t0, a, b, rfl, hD3.nd hn0, upd_same, ha, hb⟩
    generalize upd H3 t0 (.tup [.str (S a), .str (S b)]) = G0 at ex0 f0 ⊢
    replace hD3 := hD3.ex' ex0
    replace hr3 := ex0 _ _ hr3
    walk_at "rd"
    refine ⟨small (by show 2 ≤ 1000000; decide), fun t1 hn1 => ?_⟩
    have ex1 := Evl.Ex.new (o := .tup [.str (S b), .str (S a)]) hn1
    have f1 : TwoR d (upd G0 t1 (.tup [.str (S b), .str (S a)])) (.ref t1) := ⟨t1, b, a, rfl, hD3.nd hn1, upd_same, hb, ha⟩
    generalize upd G0 t1 (.tup [.str (S b), .str (S a)]) = G1 at ex1 f1 ⊢
    replace hD3 := hD3.ex' ex1
    replace hr3 := ex1 _ _ hr3
    replace f0 := f0.kp (Kp.of ex1)
    walk_at "rd"
    refine ⟨small (by show 2 ≤ 1000000; decide), fun t2 hn2 => ?_⟩
    have ex2 := Evl.Ex.new (o := .tup [.str (S l3), .str (S a)]) hn2
    have f2 : TwoR d (upd G1 t2 (.tup [.str (S l3), .str (S a)])) (.ref t2) := ⟨t2, l3, a, rfl, hD3.nd hn2, upd_same, hl3, ha⟩
    generalize upd G1 t2 (.tup [.str (S l3), .str (S a)]) = G2 at ex2 f2 ⊢
    replace hD3 := hD3.ex' ex2
    replace hr3 := ex2 _ _ hr3
    replace f0 := f0.kp (Kp.of ex2)
    replace f1 := f1.kp (Kp.of ex2)
    walk_at "rd"
    refine ⟨small (by show 2 ≤ 1000000; decide), fun t3 hn3 => ?_⟩
    have ex3 := Evl.Ex.new (o := .tup [.str (S a), .str (S a)]) hn3
    have f3 : TwoR d (upd G2 t3 (.tup [.str (S a), .str (S a)])) (.ref t3) := ⟨t3, a, a, rfl, hD3.nd hn3, upd_same, ha, ha⟩
    generalize upd G2 t3 (.tup [.str (S a), .str (S a)]) = G3 at ex3 f3 ⊢
    replace hD3 := hD3.ex' ex3
    replace hr3 := ex3 _ _ hr3
    replace f0 := f0.kp (Kp.of ex3)
    replace f1 := f1.kp (Kp.of ex3)
    replace f2 := f2.kp (Kp.of ex3)
    walk_at "rd"
    refine ⟨small (by show 2 ≤ 1000000; decide), fun t4 hn4 => ?_⟩
    have ex4 := Evl.Ex.new (o := .tup [.str (S b), .str (S l3)]) hn4
    have f4 : TwoR d (upd G3 t4 (.tup [.str (S b), .str (S l3)])) (.ref t4) := ⟨t4, b, l3, rfl, hD3.nd hn4, upd_same, hb, hl3⟩
    generalize upd G3 t4 (.tup [.str (S b), .str (S l3)]) = G4 at ex4 f4 ⊢
    replace hD3 := hD3.ex' ex4
    replace hr3 := ex4 _ _ hr3
    replace f0 := f0.kp (Kp.of ex4)
    replace f1 := f1.kp (Kp.of ex4)
    replace f2 := f2.kp (Kp.of ex4)
    replace f3 := f3.kp (Kp.of ex4)
    walk_at "rd"
    refine ⟨small (by show 5 ≤ 1000000; decide), fun m hm => ?_⟩
    have ex5 := Evl.Ex.new (o := .lst [.ref t0, .ref t1, .ref t2, .ref t3, .ref t4]) hm
    have g5 : (upd G4 m (.lst [.ref t0, .ref t1, .ref t2, .ref t3, .ref t4])) m = some (.lst [.ref t0, .ref t1, .ref t2, .ref t3, .ref t4]) := upd_same
    have om : m ≠ d := hD3.nd hm
    generalize upd G4 m (.lst [.ref t0, .ref t1, .ref t2, .ref t3, .ref t4]) = G5 at ex5 g5 ⊢
    replace hD3 := hD3.ex' ex5
    replace hr3 := ex5 _ _ hr3
    have all : ∀ y ∈ ([.ref t0, .ref t1, .ref t2, .ref t3, .ref t4] : List V), TwoR d G5 y := by
      intro y hy
      simp only [List.mem_cons, List.not_mem_nil, or_false] at hy
      rcases hy with rfl | rfl | rfl | rfl | rfl
      · exact f0.kp (Kp.of ex5)
      · exact f1.kp (Kp.of ex5)
      · exact f2.kp (Kp.of ex5)
      · exact f3.kp (Kp.of ex5)
      · exact f4.kp (Kp.of ex5)
    generalize ([.ref t0, .ref t1, .ref t2, .ref t3, .ref t4] : List V) = ml at *
    walk_at "rd"
    let J : Nat → L2.St → Hp → Prop := fun _ σ' H' => ∃ o, σ' = [some (.ref a0), some (.ref d), some (.ref r), some (.str (S l3)), o] ∧ Kp d G5 H' ∧ Dr ns c d H'
    refine forL (xs := ml) J ⟨_, rfl, Kp.refl _ _, hD3⟩ (fun i σ' H' hi hJ => ?_) (fun i y σ' H5 hy hJ => ?_) (fun σ' H5 hJ => ?_)
    · obtain ⟨o, rfl, kp, hD5⟩ := hJ
      exact Evl.sq_of (kp _ _ om g5)
    · obtain ⟨o, rfl, kp, hD5⟩ := hJ
      obtain ⟨t, p, q2, rfl, ot, ht, hp, hq⟩ := (all y (List.mem_of_getElem? hy)).kp kp
      walk_at "rd"
      refine ⟨c, d, ns, rfl, hD5, fun k H6 k0 kp6 hD6 => ?_⟩
      walk_at "rd"
      refine ⟨p, q2, k, rfl, hp, hq, k0, fun H7 ex7 => ?_⟩
      walk_at "rd"
      exact ⟨_, rfl, (kp.trans kp6).trans (Kp.of ex7), hD6.ex' ex7⟩
    · obtain ⟨o, rfl, kp, hD5⟩ := hJ
      have hr5 := kp _ _ rd hr3
      walk_at "rd"
      exact ⟨c, d, a, b, ns, rfl, hD5, ha, hb, q⟩
end
end Fk

set_option Elab.async false
set_option linter.all false
set_option maxRecDepth 100000
set_option maxHeartbeats 4000000
namespace Fk
open PySem PySem.Spec PyProof.Rows L2 Fg Fm
section
variable {P : Program} {w : World} {K : PySem.W.Frag} {mg : Str → Option Value} {base : Heap}
theorem sc_init_BadRound : FnScope ["self", "number"] ["self", "number"] (defScope (inClass (topS 2) 0)) := ⟨rfl, rfl, rfl, by decide +kernel, rfl, by decide +kernel, by decide +kernel⟩
theorem ok_init_BadRound {C fI : Addr} {fd : FuncData} (o : OexC K C) (n : PySem.W.findIn K (.ref C) "number" = some none) (F : Fun K "__init__" "BadRound.__init__" (inClass (topS 2) 0) fI fd) : FnOk P w K mg base L2.CX0 1 fI fd ["self", "number"] (spInit C "number") := by
  refine F.ok sc_init_BadRound (fun vs H Q E h => ?_) (fun cdv A outer s H vs Q E hr h => ⟨_, pss_one (ps_ost (pv 0) (pv 1)), ?_⟩)
  · obtain ⟨_, _, rfl, _⟩ := h
    rfl
  · obtain ⟨a, v, rfl, ha, q⟩ := h
    exact r_ost rfl rfl o n ha q
theorem sc_init_BadBeats : FnScope ["self", "beats"] ["self", "beats"] (defScope (inClass (topS 3) 0)) := ⟨rfl, rfl, rfl, by decide +kernel, rfl, by decide +kernel, by decide +kernel⟩
theorem ok_init_BadBeats {C fI : Addr} {fd : FuncData} (o : OexC K C) (n : PySem.W.findIn K (.ref C) "beats" = some none) (F : Fun K "__init__" "BadBeats.__init__" (inClass (topS 3) 0) fI fd) : FnOk P w K mg base L2.CX0 1 fI fd ["self", "beats"] (spInit C "beats") := by
  refine F.ok sc_init_BadBeats (fun vs H Q E h => ?_) (fun cdv A outer s H vs Q E hr h => ⟨_, pss_one (ps_ost (pv 0) (pv 1)), ?_⟩)
  · obtain ⟨_, _, rfl, _⟩ := h
    rfl
  · obtain ⟨a, v, rfl, ha, q⟩ := h
    exact r_ost rfl rfl o n ha q
theorem rel_SIGNS {t : Tok} : RelV (.str (S SGL)) (.str (Str.ofString ".grw") t) := ⟨t, by rw [show S SGL = Str.ofString ".grw" from by decide +kernel]⟩
theorem two_do {R : Prop} {q1 q2 f1 f2 : Str} {st1 st2 : Stmt} {p1 p2 : List Str} {C CB G : Addr} (X1 : ErrC K "BadRound" q1 f1 st1 p1 C) (X2 : ErrC K "BadBeats" q2 f2 st2 p2 CB) (gG : mg "GlimError" = some (.ref G))
    (h1 : PySem.W.subIn K (.ref G) (.type "BaseException") = some true) (h2 : PySem.W.isClsIn K G = true) (h3 : PySem.W.typeIn K (.ref G) = some (.type "type")) (h4 : PySem.W.subIn K (.ref C) (.ref G) = some true) (h5 : PySem.W.subIn K (.ref CB) (.ref G) = some true)
    (k11 : PySem.W.kitOne K (.ref C) (.ref C) = some true) (k12 : PySem.W.kitOne K (.ref C) (.ref CB) = some false) (k1v : PySem.W.kitOne K (.ref C) (.type "ValueError") = some true)
    (k21 : PySem.W.kitOne K (.ref CB) (.ref C) = some false) (k22 : PySem.W.kitOne K (.ref CB) (.ref CB) = some true) (k2v : PySem.W.kitOne K (.ref CB) (.type "ValueError") = some true) (n : Two K C CB G → R) : R :=
  n ⟨exm_mk h1 h2 h3 h4, exm_mk h1 h2 h3 h5, k11, k12, k1v, k21, k22, k2v⟩
theorem law_all (T : Bi mg) (F_mix : Defd K mg "_law_mix" s_l_mix ["_law_cell", "_law_turn"]) (F_draw : Defd K mg "_law_draw" s_l_draw ["_law_script"]) (F_pick : Defd K mg "_law_pick" s_l_pick ["_law_draw_here", "_law_many"]) (F_l_sign : Defd K mg "_law_sign" s_l_sign ["_law_draw_here"]) (F_l_round : Defd K mg "_law_round" s_l_round ["_law_draw_here", "_law_most"]) (F_l_later : Defd K mg "_law_later" s_l_later ["_law_row", "_law_many"]) (F_l_same_for_ever : Defd K mg "_law_same_for_ever" s_l_same_for_ever ["_law_first", "_law_second"]) (F_l_least : Defd K mg "_law_least" s_l_least ["_law_row"]) (F_l_rhythm : Defd K mg "_law_rhythm" s_l_rhythm ["_law_row"]) (F_l_moments : Defd K mg "_law_moments" s_l_moments ["_law_first", "_law_second"]) (F_l_bent : Defd K mg "_law_bent" s_l_bent ["_law_draw_here", "_law_row"]) (F_l_number : Defd K mg "_law_number" s_l_number ["_law_draw_here"]) (F_l_rounds : Defd K mg "_law_rounds" s_l_rounds ["_law_draw_here"]) (F_wrong_sign : Defd K mg "wrong_sign" s_wrong_sign ["text"]) (F_check_round : Defd K mg "check_round" s_check_round ["row"]) (F_check_rounds : Defd K mg "check_rounds" s_check_rounds ["first", "second"]) (F_turned_row : Defd K mg "turned_row" s_turned_row ["row", "beats"]) (F_shortest_row : Defd K mg "shortest_row" s_shortest_row ["row"]) (F_is_integer : Defd K mg "is_integer" s_is_integer ["thing"]) (F_least_round : Defd K mg "least_round" s_least_round ["row"]) (F_rhythm : Defd K mg "rhythm" s_rhythm ["row"]) (F_turned : Defd K mg "turned" s_turned ["row", "beats"]) (F_alike : Defd K mg "alike" s_alike ["first", "second"]) (F_moments : Defd K mg "moments" s_moments ["first", "second"]) (F_l_is_int : Defd K mg "_law_is_int" s_l_is_int ["_law_thing"]) (F_l_call : Defd K mg "_law_call" s_l_call ["_law_kind", "_law_first", "_law_second"]) (F_l_told : Defd K mg "_law_told" s_l_told ["_law_kind", "_law_first", "_law_second"]) (F_l_text_told : Defd K mg "_law_text_told" s_l_text_told ["_law_told_here", "_law_due"]) (F_l_pair_right : Defd K mg "_law_pair_right" s_l_pair_right ["_law_first", "_law_second", "_law_many"]) (F_l_bad_round : Defd K mg "_law_bad_round" s_l_bad_round ["_law_draw_here", "_law_row"]) (F_l_refused : Defd K mg "_law_refused" s_l_refused ["_law_told_here", "_law_word", "_law_due"]) (F_l_refusals_right : Defd K mg "_law_refusals_right" s_l_refusals_right ["_law_draw_here", "_law_first", "_law_second"]) {A_BadRound A_BadBeats A_GlimError : Addr} (E_BadRound : Err P w K mg base "BadRound" A_BadRound "number") (E_BadBeats : Err P w K mg base "BadBeats" A_BadBeats "beats") (g_GlimError : mg "GlimError" = some (.ref A_GlimError)) (W2 : Two K A_BadRound A_BadBeats A_GlimError)
    (c_SIGNS : ∃ u, mg "SIGNS" = some u ∧ RelV (.str (S SGL)) u) (c_MOST_BEATS : ∃ u, mg "MOST_BEATS" = some u ∧ RelV (.int 24) u) {f : Addr} {fd : FuncData} (F : Fun K "law" "law" s_law f fd) : FnOk P w K mg base L2.CX0 9 f fd ["_law_script"] (spLaw K) := by
  have C_mix : Can P w K mg base L2.CX0 1 "_law_mix" ["_law_cell", "_law_turn"] spMix := by
    apply can_mix T F_mix <;> assumption
  have C_draw : Can P w K mg base L2.CX0 1 "_law_draw" ["_law_script"] (spDraw K) := by
    apply can_draw T F_draw <;> assumption
  have C_pick : Can P w K mg base L2.CX0 2 "_law_pick" ["_law_draw_here", "_law_many"] spPick := by
    apply can_pick T F_pick <;> assumption
  have C_l_sign : Can P w K mg base L2.CX0 3 "_law_sign" ["_law_draw_here"] spSign := by
    apply can_l_sign T F_l_sign <;> assumption
  have C_l_round : Can P w K mg base L2.CX0 4 "_law_round" ["_law_draw_here", "_law_most"] spRound := by
    apply can_l_round T F_l_round <;> assumption
  have C_l_later : Can P w K mg base L2.CX0 1 "_law_later" ["_law_row", "_law_many"] spLater := by
    apply can_l_later T F_l_later <;> assumption
  have C_l_same_for_ever : Can P w K mg base L2.CX0 1 "_law_same_for_ever" ["_law_first", "_law_second"] spSame := by
    apply can_l_same_for_ever T F_l_same_for_ever <;> assumption
  have C_l_least : Can P w K mg base L2.CX0 2 "_law_least" ["_law_row"] spLeast := by
    apply can_l_least T F_l_least <;> assumption
  have C_l_rhythm : Can P w K mg base L2.CX0 3 "_law_rhythm" ["_law_row"] spLRhythm := by
    apply can_l_rhythm T F_l_rhythm <;> assumption
  have C_l_moments : Can P w K mg base L2.CX0 3 "_law_moments" ["_law_first", "_law_second"] spLMoments := by
    apply can_l_moments T F_l_moments <;> assumption
  have C_l_bent : Can P w K mg base L2.CX0 4 "_law_bent" ["_law_draw_here", "_law_row"] spBent := by
    apply can_l_bent T F_l_bent <;> assumption
  have C_l_number : Can P w K mg base L2.CX0 3 "_law_number" ["_law_draw_here"] spNumber := by
    apply can_l_number T F_l_number <;> assumption
  have C_l_rounds : Can P w K mg base L2.CX0 5 "_law_rounds" ["_law_draw_here"] spRounds := by
    apply can_l_rounds T F_l_rounds <;> assumption
  have C_wrong_sign : Can P w K mg base L2.CX0 1 "wrong_sign" ["text"] spWrong := by
    apply can_wrong_sign T F_wrong_sign <;> assumption
  have C_check_round : Can P w K mg base (L2.CX P w) 3 "check_round" ["row"] (spCheck A_BadRound) := by
    apply can_check_round T F_check_round <;> assumption
  have C_check_rounds : Can P w K mg base (L2.CX P w) 4 "check_rounds" ["first", "second"] (spChecks A_BadRound) := by
    apply can_check_rounds T F_check_rounds <;> assumption
  have C_turned_row : Can P w K mg base L2.CX0 1 "turned_row" ["row", "beats"] spTurnedRow := by
    apply can_turned_row T F_turned_row <;> assumption
  have C_shortest_row : Can P w K mg base L2.CX0 1 "shortest_row" ["row"] spShortest := by
    apply can_shortest_row T F_shortest_row <;> assumption
  have C_is_integer : Can P w K mg base L2.CX0 1 "is_integer" ["thing"] spIsInt := by
    apply can_is_integer T F_is_integer <;> assumption
  have C_least_round : Can P w K mg base (L2.CX P w) 4 "least_round" ["row"] (spLeastRound A_BadRound) := by
    apply can_least_round T F_least_round <;> assumption
  have C_rhythm : Can P w K mg base (L2.CX P w) 4 "rhythm" ["row"] (spRhythm A_BadRound) := by
    apply can_rhythm T F_rhythm <;> assumption
  have C_turned : Can P w K mg base (L2.CX P w) 4 "turned" ["row", "beats"] (spTurned A_BadRound A_BadBeats) := by
    apply can_turned T F_turned <;> assumption
  have C_alike : Can P w K mg base (L2.CX P w) 5 "alike" ["first", "second"] (spAlike A_BadRound) := by
    apply can_alike T F_alike <;> assumption
  have C_moments : Can P w K mg base (L2.CX P w) 5 "moments" ["first", "second"] (spMoments A_BadRound) := by
    apply can_moments T F_moments <;> assumption
  have C_l_is_int : Can P w K mg base L2.CX0 1 "_law_is_int" ["_law_thing"] spIsInt := by
    apply can_l_is_int T F_l_is_int <;> assumption
  have C_l_call : Can P w K mg base (L2.CX P w) 6 "_law_call" ["_law_kind", "_law_first", "_law_second"] (spCall A_BadRound A_BadBeats) := by
    apply can_l_call T F_l_call <;> assumption
  have C_l_told : Can P w K mg base L2.CX0 7 "_law_told" ["_law_kind", "_law_first", "_law_second"] (spTold A_BadRound A_BadBeats) := by
    apply can_l_told T F_l_told <;> assumption
  have C_l_text_told : Can P w K mg base L2.CX0 1 "_law_text_told" ["_law_told_here", "_law_due"] spTextTold := by
    apply can_l_text_told T F_l_text_told <;> assumption
  have C_l_pair_right : Can P w K mg base L2.CX0 8 "_law_pair_right" ["_law_first", "_law_second", "_law_many"] spPairRight := by
    apply can_l_pair_right T F_l_pair_right <;> assumption
  have C_l_bad_round : Can P w K mg base L2.CX0 3 "_law_bad_round" ["_law_draw_here", "_law_row"] spBadRound := by
    apply can_l_bad_round T F_l_bad_round <;> assumption
  have C_l_refused : Can P w K mg base L2.CX0 2 "_law_refused" ["_law_told_here", "_law_word", "_law_due"] spRefused := by
    apply can_l_refused T F_l_refused <;> assumption
  have C_l_refusals_right : Can P w K mg base L2.CX0 8 "_law_refusals_right" ["_law_draw_here", "_law_first", "_law_second"] spRefusalsRight := by
    apply can_l_refusals_right T F_l_refusals_right <;> assumption
  apply ok_law T F <;> assumption
end
end Fk

set_option Elab.async false
set_option linter.all false
set_option maxRecDepth 100000
open PySem PySem.W PyProof.Rows
set_option maxHeartbeats 8000000 in
theorem PySem.Challenge.cw_falseglim_k07_rounds_for_ever_holds : PySem.Challenge.rw_falseglim_k07_rounds_for_ever.Holds := by
  w_on; o_law; k_head; (case hw => w_witness2)
  k_fill
  refine L2.walk_of (l := PySem.Challenge.rw_falseglim_k07_rounds_for_ever) (n := 63) (k := 9) (x := "_law_script") (CX := fun _ => L2.CX0) (sp := fun w => Fk.spLaw _) rfl (by decide) rfl ⟨rfl, by decide, by decide⟩ (fun w h Y => PySem.W.kIn_of Y) ?F (fun _ _ a ns hl _ hS => ⟨a, ns, rfl, hS, hl, fun _ => rfl⟩) (fun _ _ _ _ _ h => h)
  case F =>
    intro w mg fa h KX G hmg
    refine' Fg.bi_do KX G ?z0 ?z1 ?z2 ?z3 ?z4 ?z5 ?z6 ?z7 ?z8 ?z9 ?z10 ?z11 ?z12 ?z13 ?z14 ?z15 ?z16 ?z17 ?_
    (case z0 => k_is); (case z1 => k_is); (case z2 => k_is); (case z3 => k_is); (case z4 => k_is); (case z5 => k_is); (case z6 => k_is); (case z7 => k_is); (case z8 => k_is); (case z9 => k_is); (case z10 => k_is); (case z11 => k_is); (case z12 => k_is); (case z13 => k_is); (case z14 => k_is); (case z15 => k_is); (case z16 => k_is); (case z17 => k_is)
    intro T
    refine' Fg.defd_do KX G "_law_mix" Fk.s_l_mix ["_law_cell", "_law_turn"] ?amix ?lmix ?cmix ?kmix (fun _ _ _ _ _ _ us hl => match us, hl with | [_, _], _ => rfl) ?_
    (case amix => k_is); (case lmix => k_is); (case cmix => k_is); (case kmix => k_is)
    intro F_mix
    refine' Fg.defd_do KX G "_law_draw" Fk.s_l_draw ["_law_script"] ?adraw ?ldraw ?cdraw ?kdraw (fun _ _ _ _ _ _ us hl => match us, hl with | [_], _ => rfl) ?_
    (case adraw => k_is); (case ldraw => k_is); (case cdraw => k_is); (case kdraw => k_is)
    intro F_draw
    refine' Fg.defd_do KX G "_law_pick" Fk.s_l_pick ["_law_draw_here", "_law_many"] ?apick ?lpick ?cpick ?kpick (fun _ _ _ _ _ _ us hl => match us, hl with | [_, _], _ => rfl) ?_
    (case apick => k_is); (case lpick => k_is); (case cpick => k_is); (case kpick => k_is)
    intro F_pick
    refine' Fg.defd_do KX G "_law_sign" Fk.s_l_sign ["_law_draw_here"] ?al_sign ?ll_sign ?cl_sign ?kl_sign (fun _ _ _ _ _ _ us hl => match us, hl with | [_], _ => rfl) ?_
    (case al_sign => k_is); (case ll_sign => k_is); (case cl_sign => k_is); (case kl_sign => k_is)
    intro F_l_sign
    refine' Fg.defd_do KX G "_law_round" Fk.s_l_round ["_law_draw_here", "_law_most"] ?al_round ?ll_round ?cl_round ?kl_round (fun _ _ _ _ _ _ us hl => match us, hl with | [_, _], _ => rfl) ?_
    (case al_round => k_is); (case ll_round => k_is); (case cl_round => k_is); (case kl_round => k_is)
    intro F_l_round
    refine' Fg.defd_do KX G "_law_later" Fk.s_l_later ["_law_row", "_law_many"] ?al_later ?ll_later ?cl_later ?kl_later (fun _ _ _ _ _ _ us hl => match us, hl with | [_, _], _ => rfl) ?_
    (case al_later => k_is); (case ll_later => k_is); (case cl_later => k_is); (case kl_later => k_is)
    intro F_l_later
    refine' Fg.defd_do KX G "_law_same_for_ever" Fk.s_l_same_for_ever ["_law_first", "_law_second"] ?al_same_for_ever ?ll_same_for_ever ?cl_same_for_ever ?kl_same_for_ever (fun _ _ _ _ _ _ us hl => match us, hl with | [_, _], _ => rfl) ?_
    (case al_same_for_ever => k_is); (case ll_same_for_ever => k_is); (case cl_same_for_ever => k_is); (case kl_same_for_ever => k_is)
    intro F_l_same_for_ever
    refine' Fg.defd_do KX G "_law_least" Fk.s_l_least ["_law_row"] ?al_least ?ll_least ?cl_least ?kl_least (fun _ _ _ _ _ _ us hl => match us, hl with | [_], _ => rfl) ?_
    (case al_least => k_is); (case ll_least => k_is); (case cl_least => k_is); (case kl_least => k_is)
    intro F_l_least
    refine' Fg.defd_do KX G "_law_rhythm" Fk.s_l_rhythm ["_law_row"] ?al_rhythm ?ll_rhythm ?cl_rhythm ?kl_rhythm (fun _ _ _ _ _ _ us hl => match us, hl with | [_], _ => rfl) ?_
    (case al_rhythm => k_is); (case ll_rhythm => k_is); (case cl_rhythm => k_is); (case kl_rhythm => k_is)
    intro F_l_rhythm
    refine' Fg.defd_do KX G "_law_moments" Fk.s_l_moments ["_law_first", "_law_second"] ?al_moments ?ll_moments ?cl_moments ?kl_moments (fun _ _ _ _ _ _ us hl => match us, hl with | [_, _], _ => rfl) ?_
    (case al_moments => k_is); (case ll_moments => k_is); (case cl_moments => k_is); (case kl_moments => k_is)
    intro F_l_moments
    refine' Fg.defd_do KX G "_law_bent" Fk.s_l_bent ["_law_draw_here", "_law_row"] ?al_bent ?ll_bent ?cl_bent ?kl_bent (fun _ _ _ _ _ _ us hl => match us, hl with | [_, _], _ => rfl) ?_
    (case al_bent => k_is); (case ll_bent => k_is); (case cl_bent => k_is); (case kl_bent => k_is)
    intro F_l_bent
    refine' Fg.defd_do KX G "_law_number" Fk.s_l_number ["_law_draw_here"] ?al_number ?ll_number ?cl_number ?kl_number (fun _ _ _ _ _ _ us hl => match us, hl with | [_], _ => rfl) ?_
    (case al_number => k_is); (case ll_number => k_is); (case cl_number => k_is); (case kl_number => k_is)
    intro F_l_number
    refine' Fg.defd_do KX G "_law_rounds" Fk.s_l_rounds ["_law_draw_here"] ?al_rounds ?ll_rounds ?cl_rounds ?kl_rounds (fun _ _ _ _ _ _ us hl => match us, hl with | [_], _ => rfl) ?_
    (case al_rounds => k_is); (case ll_rounds => k_is); (case cl_rounds => k_is); (case kl_rounds => k_is)
    intro F_l_rounds
    refine' Fg.defd_do KX G "wrong_sign" Fk.s_wrong_sign ["text"] ?awrong_sign ?lwrong_sign ?cwrong_sign ?kwrong_sign (fun _ _ _ _ _ _ us hl => match us, hl with | [_], _ => rfl) ?_
    (case awrong_sign => k_is); (case lwrong_sign => k_is); (case cwrong_sign => k_is); (case kwrong_sign => k_is)
    intro F_wrong_sign
    refine' Fg.defd_do KX G "check_round" Fk.s_check_round ["row"] ?acheck_round ?lcheck_round ?ccheck_round ?kcheck_round (fun _ _ _ _ _ _ us hl => match us, hl with | [_], _ => rfl) ?_
    (case acheck_round => k_is); (case lcheck_round => k_is); (case ccheck_round => k_is); (case kcheck_round => k_is)
    intro F_check_round
    refine' Fg.defd_do KX G "check_rounds" Fk.s_check_rounds ["first", "second"] ?acheck_rounds ?lcheck_rounds ?ccheck_rounds ?kcheck_rounds (fun _ _ _ _ _ _ us hl => match us, hl with | [_, _], _ => rfl) ?_
    (case acheck_rounds => k_is); (case lcheck_rounds => k_is); (case ccheck_rounds => k_is); (case kcheck_rounds => k_is)
    intro F_check_rounds
    refine' Fg.defd_do KX G "turned_row" Fk.s_turned_row ["row", "beats"] ?aturned_row ?lturned_row ?cturned_row ?kturned_row (fun _ _ _ _ _ _ us hl => match us, hl with | [_, _], _ => rfl) ?_
    (case aturned_row => k_is); (case lturned_row => k_is); (case cturned_row => k_is); (case kturned_row => k_is)
    intro F_turned_row
    refine' Fg.defd_do KX G "shortest_row" Fk.s_shortest_row ["row"] ?ashortest_row ?lshortest_row ?cshortest_row ?kshortest_row (fun _ _ _ _ _ _ us hl => match us, hl with | [_], _ => rfl) ?_
    (case ashortest_row => k_is); (case lshortest_row => k_is); (case cshortest_row => k_is); (case kshortest_row => k_is)
    intro F_shortest_row
    refine' Fg.defd_do KX G "is_integer" Fk.s_is_integer ["thing"] ?ais_integer ?lis_integer ?cis_integer ?kis_integer (fun _ _ _ _ _ _ us hl => match us, hl with | [_], _ => rfl) ?_
    (case ais_integer => k_is); (case lis_integer => k_is); (case cis_integer => k_is); (case kis_integer => k_is)
    intro F_is_integer
    refine' Fg.defd_do KX G "least_round" Fk.s_least_round ["row"] ?aleast_round ?lleast_round ?cleast_round ?kleast_round (fun _ _ _ _ _ _ us hl => match us, hl with | [_], _ => rfl) ?_
    (case aleast_round => k_is); (case lleast_round => k_is); (case cleast_round => k_is); (case kleast_round => k_is)
    intro F_least_round
    refine' Fg.defd_do KX G "rhythm" Fk.s_rhythm ["row"] ?arhythm ?lrhythm ?crhythm ?krhythm (fun _ _ _ _ _ _ us hl => match us, hl with | [_], _ => rfl) ?_
    (case arhythm => k_is); (case lrhythm => k_is); (case crhythm => k_is); (case krhythm => k_is)
    intro F_rhythm
    refine' Fg.defd_do KX G "turned" Fk.s_turned ["row", "beats"] ?aturned ?lturned ?cturned ?kturned (fun _ _ _ _ _ _ us hl => match us, hl with | [_, _], _ => rfl) ?_
    (case aturned => k_is); (case lturned => k_is); (case cturned => k_is); (case kturned => k_is)
    intro F_turned
    refine' Fg.defd_do KX G "alike" Fk.s_alike ["first", "second"] ?aalike ?lalike ?calike ?kalike (fun _ _ _ _ _ _ us hl => match us, hl with | [_, _], _ => rfl) ?_
    (case aalike => k_is); (case lalike => k_is); (case calike => k_is); (case kalike => k_is)
    intro F_alike
    refine' Fg.defd_do KX G "moments" Fk.s_moments ["first", "second"] ?amoments ?lmoments ?cmoments ?kmoments (fun _ _ _ _ _ _ us hl => match us, hl with | [_, _], _ => rfl) ?_
    (case amoments => k_is); (case lmoments => k_is); (case cmoments => k_is); (case kmoments => k_is)
    intro F_moments
    refine' Fg.defd_do KX G "_law_is_int" Fk.s_l_is_int ["_law_thing"] ?al_is_int ?ll_is_int ?cl_is_int ?kl_is_int (fun _ _ _ _ _ _ us hl => match us, hl with | [_], _ => rfl) ?_
    (case al_is_int => k_is); (case ll_is_int => k_is); (case cl_is_int => k_is); (case kl_is_int => k_is)
    intro F_l_is_int
    refine' Fg.defd_do KX G "_law_call" Fk.s_l_call ["_law_kind", "_law_first", "_law_second"] ?al_call ?ll_call ?cl_call ?kl_call (fun _ _ _ _ _ _ us hl => match us, hl with | [_, _, _], _ => rfl) ?_
    (case al_call => k_is); (case ll_call => k_is); (case cl_call => k_is); (case kl_call => k_is)
    intro F_l_call
    refine' Fg.defd_do KX G "_law_told" Fk.s_l_told ["_law_kind", "_law_first", "_law_second"] ?al_told ?ll_told ?cl_told ?kl_told (fun _ _ _ _ _ _ us hl => match us, hl with | [_, _, _], _ => rfl) ?_
    (case al_told => k_is); (case ll_told => k_is); (case cl_told => k_is); (case kl_told => k_is)
    intro F_l_told
    refine' Fg.defd_do KX G "_law_text_told" Fk.s_l_text_told ["_law_told_here", "_law_due"] ?al_text_told ?ll_text_told ?cl_text_told ?kl_text_told (fun _ _ _ _ _ _ us hl => match us, hl with | [_, _], _ => rfl) ?_
    (case al_text_told => k_is); (case ll_text_told => k_is); (case cl_text_told => k_is); (case kl_text_told => k_is)
    intro F_l_text_told
    refine' Fg.defd_do KX G "_law_pair_right" Fk.s_l_pair_right ["_law_first", "_law_second", "_law_many"] ?al_pair_right ?ll_pair_right ?cl_pair_right ?kl_pair_right (fun _ _ _ _ _ _ us hl => match us, hl with | [_, _, _], _ => rfl) ?_
    (case al_pair_right => k_is); (case ll_pair_right => k_is); (case cl_pair_right => k_is); (case kl_pair_right => k_is)
    intro F_l_pair_right
    refine' Fg.defd_do KX G "_law_bad_round" Fk.s_l_bad_round ["_law_draw_here", "_law_row"] ?al_bad_round ?ll_bad_round ?cl_bad_round ?kl_bad_round (fun _ _ _ _ _ _ us hl => match us, hl with | [_, _], _ => rfl) ?_
    (case al_bad_round => k_is); (case ll_bad_round => k_is); (case cl_bad_round => k_is); (case kl_bad_round => k_is)
    intro F_l_bad_round
    refine' Fg.defd_do KX G "_law_refused" Fk.s_l_refused ["_law_told_here", "_law_word", "_law_due"] ?al_refused ?ll_refused ?cl_refused ?kl_refused (fun _ _ _ _ _ _ us hl => match us, hl with | [_, _, _], _ => rfl) ?_
    (case al_refused => k_is); (case ll_refused => k_is); (case cl_refused => k_is); (case kl_refused => k_is)
    intro F_l_refused
    refine' Fg.defd_do KX G "_law_refusals_right" Fk.s_l_refusals_right ["_law_draw_here", "_law_first", "_law_second"] ?al_refusals_right ?ll_refusals_right ?cl_refusals_right ?kl_refusals_right (fun _ _ _ _ _ _ us hl => match us, hl with | [_, _, _], _ => rfl) ?_
    (case al_refusals_right => k_is); (case ll_refusals_right => k_is); (case cl_refusals_right => k_is); (case kl_refusals_right => k_is)
    intro F_l_refusals_right
    refine' Fg.lawd_do KX G "law" Fk.s_law "_law_script" ?alaw ?llaw ?claw ?klaw (fun _ _ _ _ _ _ us hl => match us, hl with | [_], _ => rfl) ?_
    (case alaw => k_is); (case llaw => k_is); (case claw => k_is); (case klaw => k_is)
    intro fl fdl bl Fl gl
    refine' Fg.errc_do KX "BadRound" "BadRound.__init__" "number" (L2.inClass (Fk.topS 2) 0) ["self", "number"] ?a1BadRound ?a2BadRound ?a4BadRound ?a5BadRound ?a6BadRound ?a7BadRound ?a8BadRound ?a9BadRound ?b1BadRound ?b2BadRound ?b3BadRound ?b4BadRound ?b5BadRound ?b6BadRound ?b7BadRound ?b8BadRound ?b9BadRound ?c1BadRound ?c2BadRound (fun _ _ _ _ _ _ us hl => match us, hl with | [_, _], _ => rfl) ?a3BadRound ?_
    (case a1BadRound => k_is); (case a2BadRound => k_is); (case a4BadRound => k_is); (case a5BadRound => k_is); (case a6BadRound => k_is); (case a7BadRound => k_is); (case a8BadRound => k_is); (case a9BadRound => k_is); (case b1BadRound => k_is); (case b2BadRound => k_is); (case b3BadRound => k_is); (case b4BadRound => k_is); (case b5BadRound => k_is); (case b6BadRound => k_is); (case b7BadRound => k_is); (case b8BadRound => k_is); (case b9BadRound => k_is); (case c1BadRound => k_is); (case c2BadRound => k_is); (case a3BadRound => decide +kernel)
    intro X_BadRound
    refine' Fg.errc_do KX "BadBeats" "BadBeats.__init__" "beats" (L2.inClass (Fk.topS 3) 0) ["self", "beats"] ?a1BadBeats ?a2BadBeats ?a4BadBeats ?a5BadBeats ?a6BadBeats ?a7BadBeats ?a8BadBeats ?a9BadBeats ?b1BadBeats ?b2BadBeats ?b3BadBeats ?b4BadBeats ?b5BadBeats ?b6BadBeats ?b7BadBeats ?b8BadBeats ?b9BadBeats ?c1BadBeats ?c2BadBeats (fun _ _ _ _ _ _ us hl => match us, hl with | [_, _], _ => rfl) ?a3BadBeats ?_
    (case a1BadBeats => k_is); (case a2BadBeats => k_is); (case a4BadBeats => k_is); (case a5BadBeats => k_is); (case a6BadBeats => k_is); (case a7BadBeats => k_is); (case a8BadBeats => k_is); (case a9BadBeats => k_is); (case b1BadBeats => k_is); (case b2BadBeats => k_is); (case b3BadBeats => k_is); (case b4BadBeats => k_is); (case b5BadBeats => k_is); (case b6BadBeats => k_is); (case b7BadBeats => k_is); (case b8BadBeats => k_is); (case b9BadBeats => k_is); (case c1BadBeats => k_is); (case c2BadBeats => k_is); (case a3BadBeats => decide +kernel)
    intro X_BadBeats
    refine' Fg.glob_do KX G "GlimError" ?aGlimError ?_
    (case aGlimError => k_is)
    intro g_GlimError
    refine' Fg.glob_do KX G "SIGNS" ?aSIGNS ?_
    (case aSIGNS => k_is)
    intro g_SIGNS
    refine' Fg.glob_do KX G "MOST_BEATS" ?aMOST_BEATS ?_
    (case aMOST_BEATS => k_is)
    intro g_MOST_BEATS
    refine' Fk.two_do X_BadRound X_BadBeats g_GlimError ?th1 ?th2 ?th3 ?th4 ?th5 ?tk11 ?tk12 ?tk1v ?tk21 ?tk22 ?tk2v ?_
    (case th1 => k_is); (case th2 => k_is); (case th3 => k_is); (case th4 => k_is); (case th5 => k_is); (case tk11 => kit_is); (case tk12 => kit_is); (case tk1v => kit_is); (case tk21 => kit_is); (case tk22 => kit_is); (case tk2v => kit_is)
    intro W2
    have el := hmg.symm.trans gl
    cases el
    refine ⟨fdl, bl, fun base _ _ => ?_⟩
    exact Fk.law_all T F_mix F_draw F_pick F_l_sign F_l_round F_l_later F_l_same_for_ever F_l_least F_l_rhythm F_l_moments F_l_bent F_l_number F_l_rounds F_wrong_sign F_check_round F_check_rounds F_turned_row F_shortest_row F_is_integer F_least_round F_rhythm F_turned F_alike F_moments F_l_is_int F_l_call F_l_told F_l_text_told F_l_pair_right F_l_bad_round F_l_refused F_l_refusals_right (Fg.err_mk KX G X_BadRound fun fI fd F => Fk.ok_init_BadRound X_BadRound.o X_BadRound.noN F) (Fg.err_mk KX G X_BadBeats fun fI fd F => Fk.ok_init_BadBeats X_BadBeats.o X_BadBeats.noN F) g_GlimError W2 ⟨_, g_SIGNS, Fk.rel_SIGNS⟩ ⟨_, g_MOST_BEATS, _, rfl⟩ Fl
