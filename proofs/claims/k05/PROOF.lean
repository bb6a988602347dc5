import PyProof.Rows.All
import Wide.All
import OpenK.AllK
import Wide.FinOn
import PyProof.EqAt
import PyProof.EqKinds
import PyProof.TupleCall
import HandS.ForMost
import HandS.ForExc
import HandS.IsInst
import HandS.Conv
import HandS.Wide
import HandS.ExcInit
import HandS.ExcField
import HandS.ExcIs
import HandS.EndBits
import HandS.Evl
import HandS.Codes
import HandS.Steps
import KE.DataMinMax
import KE.KIsAll
import KE.KTryMore
import HandS.Gcd
import HandS.Text
import KE.IntText
import PySem.Challenge.RW_falseglim_k05_bad_rhythm_texts
import HandS.Walk
set_option Elab.async false
set_option linter.all false
set_option maxRecDepth 100000
set_option maxHeartbeats 4000000
namespace Fg
open PySem PySem.Spec PyProof.Rows L2

/-! ### texts as lists of signs -/
def S (l : List Nat) : Str := ⟨l.toArray⟩
theorem S_len (l : List Nat) : (S l).length = l.length := by
  show l.toArray.size = l.length
  simp
theorem S_app (l m : List Nat) : S l ++ S m = S (l ++ m) := by
  show Str.append (S l) (S m) = S (l ++ m)
  unfold Str.append S
  simp
theorem S_cps (l : List Nat) : (S l).cps.toList = l := by simp [S]
theorem S_inj {l m : List Nat} (h : S l = S m) : l = m := by
  have h2 := congrArg (fun z : Str => z.cps.toList) h
  simpa [S_cps] using h2
theorem S_eq {l m : List Nat} : (S l = S m) ↔ l = m := ⟨S_inj, fun h => by rw [h]⟩
theorem S_of (z : Str) : ∃ l, z = S l := ⟨z.cps.toList, by cases z; simp [S]⟩
def cutL (l : List Nat) (lo hi : Option Int) : List Nat := (l.drop (HT.sIx l.length 0 lo)).take (HT.sIx l.length l.length hi - HT.sIx l.length 0 lo)
theorem S_cut (l : List Nat) (lo hi : Option Int) : cutS (S l) lo hi = S (cutL l lo hi) := by
  unfold cutS cutL
  rw [S_len, S_cps]
  rfl
theorem sIx_pos {n d : Nat} {i : Int} (h : 0 ≤ i) : HT.sIx n d (some i) = min i.toNat n := by
  show (if i < 0 then (i + (n : Int)).toNat else min i.toNat n) = _
  rw [if_neg (by omega)]
theorem cut_from {l : List Nat} {i : Int} (h : 0 ≤ i) : cutL l (some i) none = l.drop i.toNat := by
  unfold cutL
  rw [sIx_pos h, HT.sIx_none]
  by_cases h2 : i.toNat ≤ l.length
  · rw [Nat.min_eq_left h2]
    apply List.take_of_length_le
    rw [List.length_drop]
    omega
  · rw [Nat.min_eq_right (by omega), List.drop_eq_nil_of_le (by omega), List.drop_eq_nil_of_le (by omega), List.take_nil]
theorem cut_to {l : List Nat} {i : Int} (h : 0 ≤ i) : cutL l none (some i) = l.take i.toNat := by
  unfold cutL
  rw [sIx_pos h, HT.sIx_none]
  show List.take (min i.toNat l.length - 0) (List.drop 0 l) = _
  rw [List.drop_zero, Nat.sub_zero]
  by_cases h2 : i.toNat ≤ l.length
  · rw [Nat.min_eq_left h2]
  · rw [Nat.min_eq_right (by omega), List.take_of_length_le (Nat.le_refl _), List.take_of_length_le (by omega)]

/-! ### operations by signs -/
def rCatS : R2 := fun x y H Q => ∃ i j, x = .str (S i) ∧ y = .str (S j) ∧ i.length + j.length ≤ sizeLine ∧ Q (.str (S (i ++ j))) H
def rSlSS : V → Option Int → Option Int → Hp → VK → Prop := fun x lo hi H Q => ∃ l, x = .str (S l) ∧ l.length ≤ sizeLine ∧ Q (.str (S (cutL l lo hi))) H
def rIxSS : R2 := fun x y H Q => ∃ l i c, x = .str (S l) ∧ y = .int i ∧ l.length ≤ sizeLine ∧ atI l i = some c ∧ Q (.str (S [c])) H
def rNiS : R2 := fun x y H Q => ∃ (c : Nat) (l : List Nat), x = .str (S [c]) ∧ y = .str (S l) ∧ Q (.bl (!decide (c ∈ l))) H
def rInSS : R2 := fun x y H Q => ∃ (c : Nat) (l : List Nat), x = .str (S [c]) ∧ y = .str (S l) ∧ Q (.bl (decide (c ∈ l))) H
def rRepS : R2 := fun x y H Q => ∃ l k, x = .str (S l) ∧ y = .int k ∧ 0 ≤ k ∧ k < 2 ^ 62 ∧ l.length * k.toNat ≤ sizeLine ∧ Q (.str (S (List.replicate k.toNat l).flatten)) H
def CPowW (i j : Int) : Prop := 0 ≤ j ∧ (Builtin.Int.intBits i : Int) * j ≤ 2 ^ 27
def rLenS : List V → Hp → VK → Prop := fun xs H Q => ∃ l, xs = [.str (S l)] ∧ l.length ≤ sizeLine ∧ Q (.int l.length) H
def rLenQ (K : PySem.W.Frag) : List V → Hp → VK → Prop := fun xs H Q => ∃ p ys, xs = [.ref p] ∧ (SqL K H p ys ∨ SqT K H p ys) ∧ Q (.int ys.length) H
def rJoinS (K : PySem.W.Frag) : V → List V → Hp → VK → Prop := fun x xs H Q => ∃ a p, ∃ ys : List (List Nat), x = .str (S a) ∧ xs = [.ref p] ∧ (SqL K H p (ys.map fun l => V.str (S l)) ∨ SqT K H p (ys.map fun l => V.str (S l))) ∧
  (ys.map (·.length)).sum + ys.length * a.length ≤ 16777216 ∧ Q (.str (S (TL.joinL a ys))) H
section
variable {X : Cx}
theorem op_catS : OpR X (binaryOp .Add) rCatS := by
  intro pins s σ H x y v u Q I rx ry h
  obtain ⟨i, j, rfl, rfl, hl, q⟩ := h
  exact op_add_str pins s σ H _ _ v u Q I rx ry ⟨_, _, rfl, rfl, by rw [S_len, S_len]; exact hl, by rw [S_app]; exact q⟩
theorem sl_strS : SlR X rSlSS := by
  intro pins s σ H x v vl vu lo hi sl Q I rx hs pl pu h
  obtain ⟨l, rfl, hl, q⟩ := h
  exact sl_str pins s σ H _ v vl vu lo hi sl Q I rx hs pl pu ⟨_, rfl, by rw [S_len]; exact hl, by rw [S_cut]; exact q⟩
theorem ix_strS : IxR X rIxSS := by
  intro value slice pins s σ H x y v u Q I rx ry h hs
  obtain ⟨l, i, c, rfl, rfl, hl, ha, q⟩ := h
  exact ix_str value slice pins s σ H _ _ v u Q I rx ry ⟨_, _, c, rfl, rfl, by rw [S_len]; exact hl, by rw [S_cps]; exact ha, q⟩ hs
theorem op_niS : OpR X (compareOp .NotIn) rNiS := by
  intro pins s σ H x y v u Q I rx ry h
  obtain ⟨c, l, rfl, rfl, q⟩ := h
  exact op_notIn_sign pins s σ H _ _ v u Q I rx ry ⟨c, _, rfl, rfl, by rw [S_cps]; exact q⟩
theorem op_inSS : OpR X (compareOp .In) rInSS := by
  intro pins s σ H x y v u Q I rx ry h
  obtain ⟨c, l, rfl, rfl, q⟩ := h
  exact op_in_sign pins s σ H _ _ v u Q I rx ry ⟨c, _, rfl, rfl, by rw [S_cps]; exact q⟩
theorem op_powW : OpR X (binaryOp .Pow) (rI CPowW fun i j => .int (i ^ j.toNat)) := opI fun _ _ _ _ _ _ _ hc q => pow_int hc.1 hc.2 q
theorem call_lenS : CallR X (.builtin "len") rLenS := by
  intro pins s σ H xs us Q I r h
  obtain ⟨l, rfl, hl, q⟩ := h
  exact call_len pins s σ H _ us Q I r ⟨_, _, rfl, ⟨by rw [S_len]; exact hl, rfl⟩, by rw [S_len]; exact q⟩
theorem call_lenQ : CallR X (.builtin "len") (rLenQ X.K) := call_len_seq
theorem flat_arr (a : Array Nat) : ∀ (k : Nat) (acc : List Nat), (List.replicate k a).foldl (· ++ ·) acc.toArray = (acc ++ (List.replicate k a.toList).flatten).toArray
  | 0, acc => by simp
  | k + 1, acc => by
    rw [List.replicate_succ, List.foldl_cons]
    have e : acc.toArray ++ a = (acc ++ a.toList).toArray := by simp
    rw [e, flat_arr a k, List.replicate_succ]
    simp [List.append_assoc]
theorem op_repS : OpR X (binaryOp .Mult) rRepS := by
  intro pins s σ H x y v u Q I rx ry h
  obtain ⟨l, k, rfl, rfl, h0, h1, hz, q⟩ := h
  obtain ⟨t, rfl⟩ := rx
  obtain ⟨t2, rfl⟩ := ry
  have hs : sizeLine = 16777216 := sizeLine_eq
  have eL : (S l).length = l.length := S_len l
  have hlen : l.length ≤ 16777216 ∨ k < 1 := by
    by_cases hk : k < 1
    · exact .inr hk
    · left
      have : 1 ≤ k.toNat := by omega
      have := Nat.mul_le_mul_left l.length this
      omega
  refine PySem.P.mul_str (by
      have h2 : ¬ k ≥ 2 ^ 63 := by omega
      have h3 : ¬ k < -(2 ^ 63 : Int) := by omega
      rw [decide_eq_false h3, decide_eq_false h2]; rfl) (fun hk hx => ?_) (fun hk hx => ?_) ?_
  · rw [eL]
    have hl2 : l.length ≤ 16777216 := by omega
    have hk1 : 1 ≤ k := by omega
    have hm : (l.length : Int) * k ≤ 16777216 := by
      have e1 : ((l.length * k.toNat : Nat) : Int) = (l.length : Int) * k := by
        rw [Int.natCast_mul, Int.toNat_of_nonneg h0]
      have : ((l.length * k.toNat : Nat) : Int) ≤ 16777216 := by omega
      omega
    have h4 : (l.length : Int) ≤ (2 ^ 63 - 1) / k := by
      rw [Int.le_ediv_iff_mul_le (by omega)]
      omega
    omega
  · rw [eL]
    have : l.length * k.toNat ≤ 16777216 := by omega
    exact PyProof.Rows.short24 (by omega)
  · by_cases hk : k < 1
    · rw [if_pos hk]
      have ek : k.toNat = 0 := by omega
      rw [ek] at q
      exact ⟨by decide, ⟨.str (S []), H, I.tok _, ⟨_, rfl⟩, q⟩⟩
    · rw [if_neg hk]
      by_cases hx : (k == 1 || (S l).length == 0) = true
      · rw [if_pos hx]
        have e : (List.replicate k.toNat l).flatten = l := by
          rw [eL] at hx
          rcases (Bool.or_eq_true _ _).mp hx with h5 | h5
          · have : k = 1 := by simpa using h5
            subst this
            simp
          · have : l = [] := by
              have := by simpa using h5
              exact this
            subst this
            simp
        rw [e] at q
        exact ⟨.str (S l), H, I, ⟨_, rfl⟩, q⟩
      · rw [if_neg hx]
        have e : (⟨(List.replicate k.toNat (S l).cps).foldl (· ++ ·) #[]⟩ : Str) = S (List.replicate k.toNat l).flatten := by
          have := flat_arr (S l).cps k.toNat []
          rw [S_cps] at this
          unfold S at this ⊢
          simp only [List.nil_append] at this
          rw [← this]
        rw [e]
        refine ⟨?_, ⟨.str (S (List.replicate k.toNat l).flatten), H, I.tok _, ⟨_, rfl⟩, q⟩⟩
        rw [S_len, List.length_flatten, List.map_replicate, List.sum_replicate_nat]
        rw [Nat.mul_comm]
        exact hz
theorem op_repS' : OpR X (binaryOp .Mult) rRepS := op_repS
theorem mt_joinS : MtR X "str.join" (rJoinS X.K) := by
  intro pins s σ H x xs v us Q I rx rs h
  obtain ⟨a, p, ys, rfl, rfl, hp, hz, h⟩ := h
  have e1 : ys.map (fun l => V.str (S l)) = (ys.map SX.S).map V.str := by
    rw [List.map_map]; rfl
  have e2 : S (TL.joinL a ys) = Txt.join (SX.S a) (ys.map SX.S) := (SX.join_S a ys).symm
  rw [e1] at hp
  rw [e2] at h
  refine mt_join pins s σ H _ _ v us Q I rx rs ⟨SX.S a, p, ys.map SX.S, rfl, rfl, hp, ?_, h⟩
  rw [SX.lens, List.length_map, SX.S_len]
  exact hz
/-- min(xs), xs a list of texts -/
def rMinS (K : PySem.W.Frag) : List V → Hp → VK → Prop := fun vs H Q => ∃ (a : Addr) (ls : List (List Nat)), vs = [.ref a] ∧ SqL K H a (ls.map fun l => V.str (S l)) ∧ ls ≠ [] ∧
  ∀ m ∈ ls, (∀ y ∈ ls, ¬ y < m) → Q (.str (S m)) H
theorem dp_strs {K : PySem.W.Frag} {H : Hp} : ∀ ls : List (List Nat), DpAll K H (ls.map fun l => V.str (S l)) (ls.map fun l => PyData.str (S l))
  | [] => .nil
  | l :: r => .cons (.str _) (dp_strs r)
theorem minD_strs : ∀ (r : List (List Nat)) (m : List Nat), ∃ z, (z = m ∨ z ∈ r) ∧ (∀ y, y = m ∨ y ∈ r → ¬ y < z) ∧ (r.map fun l => PyData.str (S l)).foldl (fun a y => if PySem.W.dataLt y a then y else a) (.str (S m)) = .str (S z)
  | [], m => ⟨m, .inl rfl, (fun y hy => by
      rcases hy with rfl | hy
      · exact List.lt_irrefl _
      · cases hy), rfl⟩
  | y :: r, m => by
    rw [List.map_cons, List.foldl_cons, PySem.W.dataLt_str, S_cps, S_cps]
    by_cases h : y < m
    · rw [if_pos (decide_eq_true h)]
      obtain ⟨z, h1, h2, h3⟩ := minD_strs r y
      refine ⟨z, ?_, fun x hx => ?_, h3⟩
      · rcases h1 with h1 | h1
        · exact .inr (by rw [h1]; exact List.mem_cons_self ..)
        · exact .inr (List.mem_cons_of_mem _ h1)
      · rcases hx with rfl | hx
        · intro hlt
          exact h2 y (.inl rfl) (List.lt_trans h hlt)
        · rcases List.mem_cons.mp hx with rfl | hx
          · exact h2 _ (.inl rfl)
          · exact h2 _ (.inr hx)
    · rw [if_neg (by rw [decide_eq_false h]; decide)]
      obtain ⟨z, h1, h2, h3⟩ := minD_strs r m
      refine ⟨z, ?_, fun x hx => ?_, h3⟩
      · rcases h1 with h1 | h1
        · exact .inl h1
        · exact .inr (List.mem_cons_of_mem _ h1)
      · rcases hx with rfl | hx
        · exact h2 _ (.inl rfl)
        · rcases List.mem_cons.mp hx with rfl | hx
          · intro hlt
            have h4 := h2 m (.inl rfl)
            -- x < z, not m > x.. : z ≤ m ≤ x
            have h5 : z ≤ m := List.not_lt.mp h4
            have h6 : m ≤ x := List.not_lt.mp h
            exact absurd hlt (List.not_lt.mpr (List.le_trans h5 h6))
          · exact h2 _ (.inr hx)
theorem cr_minS (hc : X.calm = true) (hu : X.A.units + 64 < cLine) : CallR X (.builtin "min") (rMinS X.K) := by
  intro pins s σ H vs us Q I r h
  obtain ⟨a, ls, rfl, hs, hne, q⟩ := h
  obtain ⟨its, rv, hl, _⟩ := I.list hs
  rw [Vals.ref1 r]
  cases ls with
  | nil => exact absurd rfl hne
  | cons m r =>
    obtain ⟨as, hr⟩ := Dp.readsAll I _ _ _ (dp_strs (K := X.K) (H := H) (m :: r)) rv
    obtain ⟨z, h1, h2, h3⟩ := minD_strs r m
    have hd : ∀ ys : List (List Nat), PyData.depthAll (ys.map fun l => PyData.str (S l)) ≤ 1 := by
      intro ys
      induction ys with
      | nil => exact Nat.zero_le _
      | cons y ys ih => exact Nat.max_le.mpr ⟨by show PyData.depth (.str (S y)) ≤ 1; simp [PyData.depth], ih⟩
    refine PySem.W.min_list_data (I.ok.hd hc) (vs := its.toArray) hl.isList (by rw [List.toList_toArray]; exact hr) ?_ ?_ fun i v h' tk bs hv hb k => ?_
    · constructor
      · intro x hx y hy
        have hx' : x ∈ (m :: r).map fun l => PyData.str (S l) := hx
        have hy' : y ∈ (m :: r).map fun l => PyData.str (S l) := hy
        obtain ⟨p, _, rfl⟩ := List.mem_map.mp hx'
        obtain ⟨p2, _, rfl⟩ := List.mem_map.mp hy'
        rfl
      · intro x hx e
        have hx' : x ∈ (m :: r).map fun l => PyData.str (S l) := hx
        obtain ⟨p, _, rfl⟩ := List.mem_map.mp hx'
        cases e
    · have h9 : PyData.depthAll ((fun l => PyData.str (S l)) m :: List.map (fun l => PyData.str (S l)) r) ≤ 1 := hd (m :: r)
      omega
    · have e : PySem.W.minD (.str (S m)) (r.map fun l => PyData.str (S l)) = .str (S z) := h3
      rw [e] at hb
      cases hb
      refine ⟨.str (S z), H, I.kept k, ⟨_, rfl⟩, q z ?_ ?_⟩
      · rcases h1 with h1 | h1
        · rw [h1]; exact List.mem_cons_self ..
        · exact List.mem_cons_of_mem _ h1
      · intro y hy
        rcases List.mem_cons.mp hy with rfl | hy
        · exact h2 _ (.inl rfl)
        · exact h2 _ (.inr hy)
/-! ### enumerate(text) -/
def Iten (x : Str) : It :=
  ⟨fun i _ => i < x.cps.size, fun i H v H' => ∃ T c, v = .ref T ∧ H T = none ∧ H' = upd H T (.tup [.int (i : Nat), .str ⟨#[c]⟩]) ∧ x.cps[i]? = some c, fun i _ => x.cps.size ≤ i⟩
theorem turn_enumS {P : Program} {w : World} {K : PySem.W.Frag} {elts : List Expr} {kk : Nat} {tpos : Pos} (e it : Addr) (x : Str) (t : Tok) (ty : String) (hty : ty = "str_ascii_iterator" ∨ ty = "str_iterator") :
    Turn P w K (.Tuple elts kk tpos) (Iten x) [e, it] e (fun i h => (∃ old, IsEnum h e it ((i : Nat) : Int) old) ∧ h.IsStrIter it ty x t i ∧ e ≠ it ∧ i ≤ x.cps.size) where
  mem := by simp
  obj := fun i h st b hb => by
    obtain ⟨⟨old, he⟩, ⟨o, ho, hc, hd⟩, _⟩ := st
    have e' : b = e ∨ b = it := by simpa using hb
    rcases e' with z | z
    · rw [z]; exact ⟨_, he, fun v q => nomatch q⟩
    · rw [z]; exact ⟨o, ho, fun v q => by rw [hd] at q; cases q⟩
  keep := fun i h h' st k => let ⟨⟨old, he⟩, ⟨o, ho, r⟩, hne, hle⟩ := st; ⟨⟨old, k e (by simp) _ he⟩, ⟨o, k it (by simp) o ho, r⟩, hne, hle⟩
  item := by
    intro X hP hw hK hc i pins s σ H E I hf st hg
    subst hP hw hK
    obtain ⟨⟨old, he⟩, hit, hne, hle⟩ := st
    have hi : i < x.cps.size := hg
    have hel : e < s.heap.objs.size := Heap.lt_size he
    have hil : it < s.heap.objs.size := by obtain ⟨_, q, _⟩ := hit; exact Heap.lt_size q
    have D : Draws X.prog X.w X.A.in1 it [it] x.cps.size (fun i v => ∃ c u, x.cps[i]? = some c ∧ v = .str ⟨#[c]⟩ u) (fun i h => h.IsStrIter it ty x t i) := by
      rcases hty with e1 | e1
      · rw [e1]; exact Draws.strAscii (A := X.A.in1) (I.ok.hd hc) it x t
      · rw [e1]; exact Draws.strWide (A := X.A.in1) (I.ok.hd hc) it x t
    refine wpAny_pyNext_enum_itemD D he hit hi hne (by simpa using hne) fun u h' tk hv ho hit' hT hsz hk => ?_
    obtain ⟨c, u0, hc0, rfl⟩ := hv
    refine ⟨_, rfl, wpAny_letOwnedTupleGo_enum (s := { s with heap := h', toks := tk + 1 }) ho fun h'' he' sb => ?_⟩
    have hT2 : h''.get? s.heap.objs.size = some { cls := .type "tuple", data := .seq #[.int i tk, .str ⟨#[c]⟩ u0] } := (sb.2 _ (Nat.ne_of_gt hel)).trans hT
    have new : ObjOk X.prog X.w (upd H s.heap.objs.size (.tup [.int (i : Nat), .str ⟨#[c]⟩])) h'' s.heap.objs.size (.tup [.int (i : Nat), .str ⟨#[c]⟩]) :=
      ⟨by show 2 ≤ sizeLine; decide, [.int i tk, .str ⟨#[c]⟩ u0], .cons ⟨_, rfl⟩ (.cons ⟨_, rfl⟩ .nil), ⟨_, hT2, rfl, _, rfl⟩⟩
    have I1 : Inv X pins σ (upd H s.heap.objs.size (.tup [.int (i : Nat), .str ⟨#[c]⟩])) { s with heap := h'', toks := tk + 1 } :=
      I.turnedNew (ch := [e, it]) (fun b ob hb q => (sb.2 b (fun z => hb (by simp [z]))).trans (hk b ob (fun z => hb (by simp [z])) (fun z => hb (by simp [z])) q)) hf (Nat.le_refl _) new
    have hit2 : h''.IsStrIter it ty x t (i + 1) := by
      obtain ⟨o, ho, r⟩ := hit'
      exact ⟨o, (sb.2 it (Ne.symm hne)).trans ho, r⟩
    refine ⟨.ref s.heap.objs.size, _, I1, rfl, ⟨_, c, rfl, I.hok.fresh (Nat.le_refl _), rfl, hc0⟩, ⟨⟨.str ⟨#[c]⟩ u0, ?_⟩, hit2, hne, hi⟩, fun b hb => ?_⟩
    · have e1 : ((i + 1 : Nat) : Int) = (i : Int) + 1 := by omega
      rw [e1]; exact he'
    · have hb' : b < s.heap.objs.size := by
        have e' : b = e ∨ b = it := by simpa using hb
        rcases e' with z | z
        · rw [z]; exact hel
        · rw [z]; exact hil
      rw [upd_ne (Nat.ne_of_lt hb')]
      exact (hf b hb).1
  done := by
    intro X hP hw hK hc i pins s σ H E I hf st hg
    subst hP hw hK
    obtain ⟨⟨old, he⟩, hit, hne, hle⟩ := st
    have hi : x.cps.size ≤ i := hg
    obtain ⟨f0, f1, f2, f3, f4, f5⟩ := hf it (by simp)
    have D : Draws X.prog X.w X.A.in1 it [it] x.cps.size (fun i v => ∃ c u, x.cps[i]? = some c ∧ v = .str ⟨#[c]⟩ u) (fun i h => h.IsStrIter it ty x t i) := by
      rcases hty with e1 | e1
      · rw [e1]; exact Draws.strAscii (A := X.A.in1) (I.ok.hd hc) it x t
      · rw [e1]; exact Draws.strWide (A := X.A.in1) (I.ok.hd hc) it x t
    have e0 : i = x.cps.size := Nat.le_antisymm hle hi
    subst e0
    exact wpAny_pyNext_enum_endD D he hit fun h' eb => ⟨rfl, I.turned (t' := s.toks) (fun b o hb q => eb b o hb q) f0 f1 f3 f4 f5⟩
  self := fun A i s Q E st h => let ⟨⟨_, he⟩, _⟩ := st; wpAny_pyIter_enum he h
def iEnumS (ta : TA) : TI := fun σ H R => ta σ H fun vs H1 => ∃ l, vs = [.str (S l)] ∧ R (Iten (S l)) H1
theorem pi_enumS {e : Expr} {ta : TA} {p pos tpos : Pos} {elts : List Expr} {kk : Nat} (hg : Gl X "enumerate") (hm : X.mg "enumerate" = none) (ha : PA X [e] ta) (hs : starEach [e] X.env = [(false, eval e X.env)] := by rfl) :
    PI X (.Tuple elts kk tpos) (.Call (.Name "enumerate" p) [e] [] pos) (iEnumS ta) := by
  refine ⟨fun pins s σ H R I h => ?_⟩
  refine Call_ (ld_blt I hg hm boot_enumerate (PyProof.Rows.callWith_type1 (thn (ha.run pos pins s σ H _ I h) fun us s1 ⟨vs, H1, I1, r1, q1⟩ => ?_) hs rfl))
  obtain ⟨l, ex, q⟩ := q1
  subst ex
  cases r1 with
  | cons r rr =>
    cases rr
    obtain ⟨t, rfl⟩ := r
    refine call_enumerate_str fun h' he hit hsz hk => wpAny_pyIter_enum he ?_
    have I2 : Inv X pins σ H1 { s1 with heap := h' } := I1.kept (t' := s1.toks) hk
    have hty : strIterType (S l) = "str_ascii_iterator" ∨ strIterType (S l) = "str_iterator" := by
      unfold strIterType
      split
      · exact .inl rfl
      · exact .inr rfl
    refine ⟨s1.heap.objs.size + 1, [s1.heap.objs.size + 1, s1.heap.objs.size], _, _, H1, rfl, I2, turn_enumS (s1.heap.objs.size + 1) s1.heap.objs.size (S l) t _ hty, ⟨⟨.none, he⟩, hit, Nat.succ_ne_self _, Nat.zero_le _⟩, fun b hb => ?_, q⟩
    have e' : b = s1.heap.objs.size + 1 ∨ b = s1.heap.objs.size := by simpa using hb
    have hle : s1.heap.objs.size ≤ b := by
      rcases e' with z | z
      · rw [z]; exact Nat.le_add_right _ _
      · rw [z]; exact Nat.le_refl _
    exact I1.fpOk hle (I1.hok.fresh hle)
/-- for i, c in enumerate(text) -/
theorem for_enumS {l : List Nat} {g : TG} {tb : TS} {D : Ends} {σ : L2.St} {H : Hp} (Pv : Nat → L2.St → Hp → Prop) (h0 : Pv 0 σ H)
    (hs : ∀ i c σ H T, l[i]? = some c → Pv i σ H → H T = none → g (.ref T) σ (upd H T (.tup [.int (i : Nat), .str (S [c])])) fun σ2 H2 => tb { D with nx := Pv (i + 1), ct := Pv (i + 1), bk := D.nx } σ2 H2) (hd : ∀ σ H, Pv l.length σ H → D.nx σ H) :
    ∃ W : Nat → Nat → L2.St → Hp → Prop, (∃ m, W 0 m σ H) ∧ ∀ i m σ H, W i m σ H →
      ((Iten (S l)).stop i H ∧ D.nx σ H) ∨ ((Iten (S l)).go i H ∧ ∃ N : L2.St → Hp → Prop, (∀ σ' H', N σ' H' → ∃ m', m' < m ∧ W (i + 1) m' σ' H') ∧ ∀ x H', (Iten (S l)).yld i H x H' → g x σ H' fun σ2 H2 => tb { D with nx := N, ct := N, bk := D.nx } σ2 H2) := by
  have sz : (S l).cps.size = l.length := S_len l
  have gt : ∀ i : Nat, (S l).cps[i]? = l[i]? := fun i => by
    unfold S
    simp
  refine ⟨fun i m σ H => m = l.length - i ∧ i ≤ l.length ∧ Pv i σ H, ⟨l.length, by simp, Nat.zero_le _, h0⟩, ?_⟩
  rintro i m σ H ⟨rfl, hi, p⟩
  by_cases hlt : i < l.length
  · refine .inr ⟨by show i < (S l).cps.size; omega, Pv (i + 1), fun σ' H' p' => ⟨l.length - (i + 1), by omega, rfl, hlt, p'⟩, fun x H' y => ?_⟩
    obtain ⟨T, c, rfl, hT, rfl, hc⟩ := y
    rw [gt] at hc
    exact hs i c σ H T hc p hT
  · have e : i = l.length := by omega
    subst e
    exact .inl ⟨by show (S l).cps.size ≤ l.length; omega, hd σ H p⟩
end
end Fg

set_option Elab.async false
set_option linter.all false
set_option maxRecDepth 100000
set_option maxHeartbeats 4000000
namespace Fg
open PySem PySem.Spec PyProof.Rows L2

/-! ### heaps -/
abbrev Ex := Evl.Ex
def Kp (d : Addr) (H H' : Hp) : Prop := ∀ b o, b ≠ d → H b = some o → H' b = some o
theorem Kp.refl (d : Addr) (H : Hp) : Kp d H H := fun _ _ _ h => h
theorem Kp.trans {d : Addr} {H H1 H2 : Hp} (a : Kp d H H1) (b : Kp d H1 H2) : Kp d H H2 := fun c o n h => b c o n (a c o n h)
theorem Kp.of {d : Addr} {H H' : Hp} (e : Ex H H') : Kp d H H' := fun b o _ h => e b o h
theorem Kp.upd {d : Addr} {H : Hp} {o : HO} : Kp d H (upd H d o) := fun b u n h => by rw [upd_ne n]; exact h
theorem Kp.l {K : PySem.W.Frag} {d : Addr} {H H' : Hp} (e : Kp d H H') {a : Addr} {xs : List V} (n : a ≠ d) (h : SqL K H a xs) : SqL K H' a xs := by
  rcases h with (h | ⟨o, h⟩) | h
  · exact .inl (.inl (e _ _ n h))
  · exact .inl (.inr ⟨o, e _ _ n h⟩)
  · exact .inr h

/-! ### a def that can be called -/
structure Can (P : Program) (w : World) (K : PySem.W.Frag) (mg : Str → Option Value) (base : Heap) (CX : CXT) (k : Nat) (x : Str) (ps : List Str) (sp : Sp) : Prop where
  ex : ∃ (f : Addr) (fd : FuncData), FnOk P w K mg base CX k f fd ps sp ∧ mg x = some (.ref f) ∧ PySem.W.keepIn K (.ref f) = true ∧ Binds K fd ps []
/-- what the top has written of a def -/
structure Defd (K : PySem.W.Frag) (mg : Str → Option Value) (x : Str) (st : Stmt) (ps : List Str) : Prop where
  ex : ∃ (f : Addr) (fd : FuncData), Fun K x x st f fd ∧ mg x = some (.ref f) ∧ Binds K fd ps []
section
variable {P : Program} {w : World} {K : PySem.W.Frag} {mg : Str → Option Value} {base : Heap}
theorem can0 {x : Str} {st : Stmt} {N ps : List Str} {k : Nat} {sp : Sp} (F : Defd K mg x st ps) (S : FnScope N ps (defScope st)) (len : ∀ vs H Q E, sp vs H Q E → vs.length = ps.length)
    (hbody : ∀ (f : Addr) (cdv : Value) (A : Around) (outer : List Env) (s : Shared) (H : Hp) (vs : List V) (Q : VK) (E : XK), Room k (A.deeper (envOfC x (defScope st) s.heap.objs.size f cdv)) → sp vs H Q E →
      ∃ t, PSs (cxOf L2.CX0 P w K mg base N x (defScope st) f cdv A outer s H E).nox (defBody st) t ∧ t { nx := fun _ H' => Q .non H', rt := Q } (start N vs) H) : Can P w K mg base L2.CX0 (k + 1) x ps sp := by
  obtain ⟨f, fd, F, hm, b⟩ := F.ex
  exact ⟨f, fd, F.ok S len fun cdv A outer s H vs Q E hr h => hbody f cdv A outer s H vs Q E hr h, hm, F.kp, b⟩
theorem canX {x : Str} {st : Stmt} {N ps : List Str} {k : Nat} {sp : Sp} (F : Defd K mg x st ps) (S : FnScope N ps (defScope st)) (len : ∀ vs H Q E, sp vs H Q E → vs.length = ps.length)
    (hbody : ∀ (f : Addr) (cdv : Value) (A : Around) (outer : List Env) (s : Shared) (H : Hp) (vs : List V) (Q : VK) (E : XK), Room k (A.deeper (envOfC x (defScope st) s.heap.objs.size f cdv)) → sp vs H Q E →
      ∃ t, PSs (cxOf (L2.CX P w) P w K mg base N x (defScope st) f cdv A outer s H E) (defBody st) t ∧ t { nx := fun _ H' => Q .non H', rt := Q } (start N vs) H) : Can P w K mg base (L2.CX P w) (k + 1) x ps sp := by
  obtain ⟨f, fd, F, hm, b⟩ := F.ex
  exact ⟨f, fd, F.okX S len fun cdv A outer s H vs Q E hr h => hbody f cdv A outer s H vs Q E hr h, hm, F.kp, b⟩
end
theorem hu64 {k : Nat} {A : Around} (hr : Room k A) : A.units + 64 < cLine := by have := hr.un; omega
section
variable {X : Cx} {k j : Nat} {x : Str} {sp : Sp} {ps : List Str} {p pos : Pos} {e : Expr} {es : List Expr} {t : TA}
theorem pe_can (c : Can X.prog X.w X.K X.mg X.base L2.CX0 k x ps sp) (hr : Room j X.A) (hk : k ≤ j) (hg : Gl X x) (ha : PA X (e :: es) t)
    (hdb : (x == ("__debug__" : Str)) = false := by decide) (he : starEach (e :: es) X.env = (false, eval e X.env) :: starEach es X.env := by rfl) (hpl : (backTo pos (starEach es X.env)).any (·.1) = false := by rfl) :
    PE X (.Call (.Name x p) (e :: es) [] pos) (tCall sp [] L2.E0 t) := by
  obtain ⟨f, fd, F, hm, kp, b⟩ := c.ex
  exact pe_call F (hr.mono hk) hg hm kp b .nil L2.pass0 ha hdb he hpl
/-- a def that may raise, called by one that may -/
theorem pe_canX {E : XK} (c : Can X.prog X.w X.K X.mg X.base (L2.CX X.prog X.w) k x ps sp) (hr : Room j X.A) (hk : k ≤ j) (hg : Gl X x) (hx : Passes (L2.CX X.prog X.w) X E) (ha : PA X (e :: es) t)
    (hdb : (x == ("__debug__" : Str)) = false := by decide) (he : starEach (e :: es) X.env = (false, eval e X.env) :: starEach es X.env := by rfl) (hpl : (backTo pos (starEach es X.env)).any (·.1) = false := by rfl) :
    PE X (.Call (.Name x p) (e :: es) [] pos) (tCall sp [] E t) := by
  obtain ⟨f, fd, F, hm, kp, b⟩ := c.ex
  exact pe_call F (hr.mono hk) hg hm kp b .nil hx ha hdb he hpl
/-- .. called within a try -/
theorem pe_canS {E : L2.St → XK} (c : Can X.prog X.w X.K X.mg X.base (L2.CX X.prog X.w) k x ps sp) (hr : Room j X.A) (hk : k ≤ j) (hg : Gl X x) (hx : ∀ σ, PassesAt (L2.CX X.prog X.w) X σ (E σ)) (ha : PA X (e :: es) t)
    (hdb : (x == ("__debug__" : Str)) = false := by decide) (he : starEach (e :: es) X.env = (false, eval e X.env) :: starEach es X.env := by rfl) (hpl : (backTo pos (starEach es X.env)).any (·.1) = false := by rfl) :
    PE X (.Call (.Name x p) (e :: es) [] pos) (tCallS sp E t) := by
  obtain ⟨f, fd, F, hm, kp, b⟩ := c.ex
  exact pe_callS F (hr.mono hk) hg hm kp b hx ha hdb he hpl
end
theorem pe_strL {X : Cx} {x : Str} {j : Nat} {pos : Pos} (l : List Nat) (h : x = S l) : PE X (.Constant (.str x) j pos) (tC (.str (S l))) := by
  rw [← h]; exact pe_str
theorem Kp.free {d : Addr} {H H' : Hp} (e : Kp d H H') {D : Addr} (hd : H' d ≠ none) (h : H' D = none) : H D = none := by
  cases q : H D with
  | none => rfl
  | some o =>
    have n : D ≠ d := fun z => hd (by rw [← z]; exact h)
    rw [e D o n q] at h
    cases h
theorem Kp.mut {d D : Addr} {H H' : Hp} {o : HO} (e : Kp d H H') (h : H D = none) : Kp d H (L2.upd H' D o) := fun b u n hb => by
  rw [upd_ne (ne_of_none hb h)]
  exact e b u n hb
theorem Kp.new {d D : Addr} {H : Hp} {o : HO} (h : H D = none) : Kp d H (L2.upd H D o) := fun b u _ hb => by
  rw [upd_ne (ne_of_none hb h)]
  exact hb
/-- the built-ins' names stand for the built-ins -/
structure Bi (mg : Str → Option Value) : Prop where
  b_len : mg "len" = none
  b_int : mg "int" = none
  b_str : mg "str" = none
  b_bool : mg "bool" = none
  b_list : mg "list" = none
  b_tuple : mg "tuple" = none
  b_sum : mg "sum" = none
  b_abs : mg "abs" = none
  b_min : mg "min" = none
  b_max : mg "max" = none
  b_sorted : mg "sorted" = none
  b_all : mg "all" = none
  b_any : mg "any" = none
  b_isinstance : mg "isinstance" = none
  b_range : mg "range" = none
  b_enumerate : mg "enumerate" = none
  b_zip : mg "zip" = none
  b_ValueError : mg "ValueError" = none

/-! ### readings, one step each -/
section
variable {σ : L2.St} {H : Hp} {Q : VK} {D : Ends} {ta tb tc te : TE} {t u : TS} {c d : TT} {tl : TA} {i : Nat} {v x y : V} {r : R2} {K : PySem.W.Frag}
theorem r_seq (q : t { D with nx := u D } σ H) : tSeq t u D σ H := q
theorem r_asg {g : TG} (q : te σ H fun x H1 => g x σ H1 D.nx) : tAsg te g D σ H := q
theorem r_gname {Q : L2.St → Hp → Prop} (q : Q (σ.set i (some v)) H) : gName i v σ H Q := q
theorem r_gsub {s : TSet} {Q : L2.St → Hp → Prop} (q : ta σ H fun o H1 => tb σ H1 fun i H2 => s o i v H2 fun H3 => Q σ H3) : gSub ta tb s v σ H Q := q
theorem r_ret (q : te σ H D.rt) : tRet te D σ H := q
theorem r_retN (q : D.rt .non H) : tRetN D σ H := q
theorem r_next (q : D.nx σ H) : tNext D σ H := q
theorem r_drop (q : te σ H fun _ H1 => D.nx σ H1) : tDrop te D σ H := q
theorem r_ifS (q : c σ H fun b H1 => if b = true then t D σ H1 else u D σ H1) : tIfS c t u D σ H := q
theorem r_if (q : c σ H fun b H1 => if b = true then ta σ H1 Q else tb σ H1 Q) : tIf c ta tb σ H Q := q
theorem r_par {j : Nat} (q : tl σ H fun vs H1 => ∃ v w, vs = [v, w] ∧ D.nx ((σ.set i (some v)).set j (some w)) H1) : tPar i j tl D σ H := q
theorem r_pair {P : V → V → Prop} (q : P x y) : ∃ v w, [x, y] = [v, w] ∧ P v w := ⟨x, y, rfl, q⟩
theorem r_test {Q : Bool → Hp → Prop} (q : te σ H fun x H' => ∃ k, x = .bl k ∧ Q k H') : tTest te σ H Q := q
theorem r_tB {Q : Bool → Hp → Prop} (q : te σ H fun x H' => ∃ k, x = .bl k ∧ Q k H') : tB te σ H Q := q
theorem r_not {Q : Bool → Hp → Prop} (q : c σ H fun b H1 => Q (!b) H1) : tNot c σ H Q := q
theorem r_and {Q : Bool → Hp → Prop} (q : c σ H fun b H1 => if b = true then d σ H1 Q else Q false H1) : tAnd c d σ H Q := q
theorem r_or {Q : Bool → Hp → Prop} (q : c σ H fun b H1 => if b = true then Q true H1 else d σ H1 Q) : tOr c d σ H Q := q
theorem r_andV (q : ta σ H fun x H1 => ∃ c, x = .bl c ∧ if c = true then tb σ H1 Q else Q (.bl false) H1) : tAndV ta tb σ H Q := q
theorem r_orV (q : ta σ H fun x H1 => ∃ c, x = .bl c ∧ if c = true then Q (.bl true) H1 else tb σ H1 Q) : tOrV ta tb σ H Q := q
theorem r_notV (q : ta σ H fun x H1 => ∃ c, x = .bl c ∧ Q (.bl (!c)) H1) : tNotV ta σ H Q := q
theorem r_nil {Q : List V → Hp → Prop} (q : Q [] H) : tNil σ H Q := q
theorem r_cons {Q : List V → Hp → Prop} (q : ta σ H fun x H1 => tl σ H1 fun xs H2 => Q (x :: xs) H2) : tCons ta tl σ H Q := q
theorem r_call {sp : Sp} {E : XK} (q : tl σ H fun vs H1 => sp (vs ++ []) H1 Q E) : tCall sp [] E tl σ H Q := q
theorem r_callS {sp : Sp} {E : L2.St → XK} (q : tl σ H fun vs H1 => sp vs H1 Q (E σ)) : tCallS sp E tl σ H Q := q
theorem r_cb {r : List V → Hp → VK → Prop} (q : tl σ H fun vs H1 => r vs H1 Q) : tCB r tl σ H Q := q
theorem r_then {k : V → Hp → VK → Prop} (q : ta σ H fun x H1 => k x H1 Q) : tThen ta k σ H Q := q
theorem r_tup (q : tl σ H fun xs H1 => xs.length ≤ sizeLine ∧ ∀ p, H1 p = none → Q (.ref p) (upd H1 p (.tup xs))) : tTup tl σ H Q := q
theorem r_lst (q : tl σ H fun xs H1 => xs.length ≤ sizeLine ∧ ∀ p, H1 p = none → Q (.ref p) (upd H1 p (.lst xs))) : tLst tl σ H Q := q
theorem r_sl {r : V → Option Int → Option Int → Hp → VK → Prop} {to th : TO} (q : te σ H fun x H1 => to σ H1 fun l H2 => th σ H2 fun u H3 => r x l u H3 Q) : tSl r te to th σ H Q := q
theorem r_nopart {Q : Option Int → Hp → Prop} (q : Q none H) : tNoPart σ H Q := q
theorem r_part {Q : Option Int → Hp → Prop} (q : te σ H fun x H1 => ∃ i, x = .int i ∧ Q (some i) H1) : tPart te σ H Q := q
theorem r_op (q : ta σ H fun x H1 => tb σ H1 fun y H2 => r x y H2 Q) : tOp r ta tb σ H Q := q
theorem r_un {r : V → Hp → VK → Prop} (q : ta σ H fun x H1 => r x H1 Q) : tUn r ta σ H Q := q
theorem r_chain {r' : R2} (q : ta σ H fun x H1 => tb σ H1 fun y H2 => r x y H2 fun z H3 => ∃ k, z = .bl k ∧ (if k = true then tc σ H3 fun w' H4 => r' y w' H4 Q else Q (.bl false) H3)) : tChain r r' ta tb tc σ H Q := q
theorem r_var (h : σ[i]? = some (some v)) (q : Q v H) : tVar i σ H Q := ⟨v, h, q⟩
theorem r_c (q : Q v H) : tC v σ H Q := q
theorem r_yes {Q : Bool → Hp → Prop} (q : Q true H) : tYes σ H Q := q
theorem r_bm {T : String} {r : V → List V → Hp → VK → Prop} {to : TE} (q : to σ H fun x H1 => tyV K T x H1 ∧ tl σ H1 fun xs H2 => r x xs H2 Q) : tBM K T r to tl σ H Q := q
theorem r_bl {b : Bool} {P : Bool → Prop} (q : P b) : ∃ k, V.bl b = V.bl k ∧ P k := ⟨b, rfl, q⟩
theorem r_in {b : Int} {P : Int → Prop} (q : P b) : ∃ k, V.int b = V.int k ∧ P k := ⟨b, rfl, q⟩
theorem r_ty {s : Str} {A : Prop} (q : A) : tyV K "str" (.str s) H ∧ A := ⟨rfl, q⟩
theorem r_I0 {g : Int → Int → V} {i j : Int} (q : Q (g i j) H) : rI0 g (.int i) (.int j) H Q := ⟨i, j, rfl, rfl, q⟩
theorem r_I {C : Int → Int → Prop} {g : Int → Int → V} {i j : Int} (hc : C i j) (q : Q (g i j) H) : rI C g (.int i) (.int j) H Q := ⟨i, j, rfl, rfl, hc, q⟩
theorem r_U {g : Int → V} {i : Int} (q : Q (g i) H) : rU g (.int i) H Q := ⟨i, rfl, q⟩
theorem r_eqI {i j : Int} (q : Q (.bl (decide (i = j))) H) : rEq (.int i) (.int j) H Q := ⟨rfl, by
  rw [show decide (V.int i = V.int j) = decide (i = j) by simp]; exact q⟩
theorem r_neI {i j : Int} (q : Q (.bl (!decide (i = j))) H) : rNe (.int i) (.int j) H Q := ⟨rfl, by
  rw [show decide (V.int i = V.int j) = decide (i = j) by simp]; exact q⟩
theorem r_eqS {i j : List Nat} (q : Q (.bl (decide (i = j))) H) : rEq (.str (S i)) (.str (S j)) H Q := ⟨rfl, by
  rw [show decide (V.str (S i) = V.str (S j)) = decide (i = j) by simp [S_eq]]; exact q⟩
theorem r_neS {i j : List Nat} (q : Q (.bl (!decide (i = j))) H) : rNe (.str (S i)) (.str (S j)) H Q := ⟨rfl, by
  rw [show decide (V.str (S i) = V.str (S j)) = decide (i = j) by simp [S_eq]]; exact q⟩
theorem r_eqB {i j : Bool} (q : Q (.bl (decide (i = j))) H) : rEq (.bl i) (.bl j) H Q := ⟨rfl, by
  rw [show decide (V.bl i = V.bl j) = decide (i = j) by simp]; exact q⟩
theorem r_neB {i j : Bool} (q : Q (.bl (!decide (i = j))) H) : rNe (.bl i) (.bl j) H Q := ⟨rfl, by
  rw [show decide (V.bl i = V.bl j) = decide (i = j) by simp]; exact q⟩
theorem r_catS {i j : List Nat} (h : i.length + j.length ≤ sizeLine) (q : Q (.str (S (i ++ j))) H) : rCatS (.str (S i)) (.str (S j)) H Q := ⟨i, j, rfl, rfl, h, q⟩
theorem r_repS {l : List Nat} {k : Int} (h0 : 0 ≤ k) (h1 : k < 2 ^ 62) (h : l.length * k.toNat ≤ sizeLine) (q : Q (.str (S (List.replicate k.toNat l).flatten)) H) : rRepS (.str (S l)) (.int k) H Q := ⟨l, k, rfl, rfl, h0, h1, h, q⟩
theorem r_slSS {l : List Nat} {lo hi : Option Int} (h : l.length ≤ sizeLine) (q : Q (.str (S (cutL l lo hi))) H) : rSlSS (.str (S l)) lo hi H Q := ⟨l, rfl, h, q⟩
theorem r_ixSS {l : List Nat} {j : Int} {c : Nat} (h : l.length ≤ sizeLine) (h0 : 0 ≤ j) (hc : l[j.toNat]? = some c) (q : Q (.str (S [c])) H) : rIxSS (.str (S l)) (.int j) H Q := ⟨l, j, c, rfl, rfl, h, by
  have e : j = ((j.toNat : Nat) : Int) := by omega
  rw [e]; exact atI_nat hc, q⟩
theorem r_niS {l : List Nat} {c : Nat} (q : Q (.bl (!decide (c ∈ l))) H) : rNiS (.str (S [c])) (.str (S l)) H Q := ⟨c, l, rfl, rfl, q⟩
theorem r_inSS {l : List Nat} {c : Nat} (q : Q (.bl (decide (c ∈ l))) H) : rInSS (.str (S [c])) (.str (S l)) H Q := ⟨c, l, rfl, rfl, q⟩
theorem r_lenS {l : List Nat} (h : l.length ≤ sizeLine) (q : Q (.int l.length) H) : rLenS [.str (S l)] H Q := ⟨l, rfl, h, q⟩
theorem r_lenL {p : Addr} {ys : List V} (h : SqL K H p ys) (q : Q (.int ys.length) H) : rLenQ K [.ref p] H Q := ⟨p, ys, rfl, .inl h, q⟩
theorem r_lenT {p : Addr} {ys : List V} (h : SqT K H p ys) (q : Q (.int ys.length) H) : rLenQ K [.ref p] H Q := ⟨p, ys, rfl, .inr h, q⟩
theorem r_ixL {p : Addr} {xs : List V} {j : Int} (h : SqL K H p xs) (h0 : 0 ≤ j) (hc : xs[j.toNat]? = some v) (q : Q v H) : rIxL K (.ref p) (.int j) H Q := ⟨p, xs, j, v, rfl, rfl, h, by
  have e : j = ((j.toNat : Nat) : Int) := by omega
  rw [e]; exact atI_nat hc, q⟩
theorem r_ixT {p : Addr} {xs : List V} {j : Int} (h : SqT K H p xs) (h0 : 0 ≤ j) (hc : xs[j.toNat]? = some v) (q : Q v H) : rIxT K (.ref p) (.int j) H Q := ⟨p, xs, j, v, rfl, rfl, h, by
  have e : j = ((j.toNat : Nat) : Int) := by omega
  rw [e]; exact atI_nat hc, q⟩
theorem r_setL {p : Addr} {xs : List V} {j : Int} {Q : Hp → Prop} (h : H p = some (.lst xs)) (h0 : 0 ≤ j) (hj : j.toNat < xs.length) (q : Q (upd H p (.lst (xs.set j.toNat v)))) : rSetL (.ref p) (.int j) v H Q := ⟨p, xs, j, j.toNat, rfl, rfl, h, by
  have e : j = ((j.toNat : Nat) : Int) := by omega
  have := Evl.ixN_nat hj
  rw [← e] at this
  exact this, q⟩
theorem r_sum {p : Addr} {ns : List Int} (h : SqL K H p (ns.map V.int)) (q : Q (.int ns.sum) H) : rSum K [.ref p] H Q := ⟨p, ns, rfl, h, q⟩
theorem take_map {α β : Type} {l : List α} {i : Nat} {x : β} {f : α → β} (h : (l.map f)[i]? = some x) : (l.take (i + 1)).map f = (l.take i).map f ++ [x] := by
  rw [List.getElem?_map] at h
  cases e : l[i]? with
  | none => rw [e] at h; cases h
  | some y =>
    rw [e] at h
    have e2 : f y = x := Option.some.inj h
    rw [List.take_add_one, e, List.map_append, ← e2]
    rfl
theorem lt_of_get {α : Type} {l : List α} {i : Nat} {x : α} (h : l[i]? = some x) : i < l.length := (List.getElem?_eq_some_iff.mp h).1
theorem r_join {p : Addr} {a : List Nat} {ys : List (List Nat)} (h : SqL K H p (ys.map fun l => V.str (S l))) (hz : (ys.map (·.length)).sum + ys.length * a.length ≤ 16777216) (q : Q (.str (S (TL.joinL a ys))) H) : rJoinS K (.str (S a)) [.ref p] H Q := ⟨a, p, ys, rfl, rfl, .inl h, hz, q⟩
theorem joinL_nil : ∀ ys : List (List Nat), TL.joinL [] ys = ys.flatten
  | [] => rfl
  | [p] => by simp [TL.joinL]
  | p :: q :: r => by
    show p ++ ([] ++ TL.joinL [] (q :: r)) = _
    rw [joinL_nil (q :: r)]
    rfl
theorem joinL_one (l : List Nat) : TL.joinL [] (l.map fun c => [c]) = l := by
  rw [joinL_nil]
  induction l with
  | nil => rfl
  | cons x r ih => rw [List.map_cons, List.flatten_cons, ih]; rfl
/-- ''.join of signs -/
theorem r_joinC {p : Addr} {l : List Nat} (h : SqL K H p (l.map fun c => V.str (S [c]))) (hz : l.length ≤ 100000) (q : Q (.str (S l)) H) : rJoinS K (.str (S [])) [.ref p] H Q := by
  have e : l.map (fun c => V.str (S [c])) = (l.map fun c => [c]).map fun l => V.str (S l) := by rw [List.map_map]; rfl
  rw [e] at h
  refine r_join h ?_ (by rw [joinL_one]; exact q)
  rw [List.map_map, List.length_map]
  have : (l.map ((fun x => x.length) ∘ fun c => [c])).sum = l.length := by
    clear h e q hz
    induction l with
    | nil => rfl
    | cons x r ih => rw [List.map_cons, List.sum_cons, ih, List.length_cons]; show 1 + r.length = r.length + 1; omega
  rw [this]
  show l.length + l.length * 0 ≤ _
  omega
theorem r_tupL {p : Addr} {xs : List V} (h : SqL K H p xs) (q : ∀ t, H t = none → Q (.ref t) (upd H t (.tup xs))) : kTup K (.ref p) H Q := .inl ⟨p, xs, rfl, h, q⟩
theorem r_tupT {p : Addr} {xs : List V} (h : SqT K H p xs) (q : Q (.ref p) H) : kTup K (.ref p) H Q := .inr ⟨p, xs, rfl, h, q⟩
theorem r_all {p : Addr} {bs : List Bool} (h : SqL K H p (bs.map V.bl)) (q : Q (.bl (bs.all id)) H) : rAll K [.ref p] H Q := ⟨p, bs, rfl, h, q⟩
theorem r_minS {p : Addr} {ls : List (List Nat)} (h : SqL K H p (ls.map fun l => V.str (S l))) (hn : ls ≠ []) (q : ∀ m ∈ ls, (∀ y ∈ ls, ¬ y < m) → Q (.str (S m)) H) : rMinS K [.ref p] H Q := ⟨p, ls, rfl, h, hn, q⟩
theorem ltCps_iff : ∀ a b : List Nat, PySem.Spec.ltCps a b = true ↔ a < b
  | [], [] => by simp [PySem.Spec.ltCps]
  | [], _ :: _ => by simp [PySem.Spec.ltCps]
  | _ :: _, [] => by simp [PySem.Spec.ltCps]
  | a :: r, b :: t => by
    simp only [PySem.Spec.ltCps, Bool.or_eq_true, Bool.and_eq_true, decide_eq_true_eq, beq_iff_eq, List.cons_lt_cons_iff, ltCps_iff r t]
theorem rising_le : ∀ (zs : List Str) (p : Str), PyProof.Rows.risingS p zs = true → ∀ y ∈ zs, ¬ y.cps.toList < p.cps.toList
  | [], _, _, y, hy => by cases hy
  | x :: r, p, h, y, hy => by
    have h' : (!PySem.Spec.ltCps x.cps.toList p.cps.toList && PyProof.Rows.risingS x r) = true := h
    rw [Bool.and_eq_true, Bool.not_eq_true'] at h'
    have hx : ¬ x.cps.toList < p.cps.toList := fun z => by
      have := (ltCps_iff _ _).mpr z
      rw [h'.1] at this
      cases this
    rcases List.mem_cons.mp hy with rfl | hy
    · exact hx
    · have := rising_le r x h'.2 y hy
      exact fun z => absurd z (List.not_lt.mpr (List.le_trans (List.not_lt.mp hx) (List.not_lt.mp this)))
/-- sorted(texts): its first is the least -/
theorem r_sortedS {p : Addr} {ls : List (List Nat)} (h : SqL K H p (ls.map fun l => V.str (S l))) (hl : ls.length < 64) (hn : ls ≠ [])
    (q : ∀ z zs d, z ∈ ls → (∀ y ∈ ls, ¬ y < z) → H d = none → Q (.ref d) (upd H d (.lst (.str (S z) :: zs)))) : rSortedS K [.ref p] H Q := by
  have e : ls.map (fun l => V.str (S l)) = (ls.map S).map V.str := by rw [List.map_map]; rfl
  rw [e] at h
  refine ⟨p, ls.map S, rfl, h, by rw [List.length_map]; exact hl, fun ys d hp hs hd => ?_⟩
  cases ys with
  | nil =>
    have := hp.length_eq
    rw [List.length_map] at this
    exact absurd (List.length_eq_zero_iff.mp this.symm) hn
  | cons y r =>
    have hy : y ∈ ls.map S := hp.mem_iff.mp (List.mem_cons_self ..)
    obtain ⟨z, hz, rfl⟩ := List.mem_map.mp hy
    refine q z (r.map V.str) d hz (fun x hx => ?_) hd
    have hx2 : S x ∈ S z :: r := hp.mem_iff.mpr (List.mem_map.mpr ⟨x, hx, rfl⟩)
    rcases List.mem_cons.mp hx2 with e | hx3
    · rw [S_inj e]; exact List.lt_irrefl _
    · have := rising_le r (S z) hs (S x) hx3
      rwa [S_cps, S_cps] at this
theorem kb_int_int : kitB "int" "int" = some true := by decide +kernel
theorem kb_int_bool : kitB "int" "bool" = some false := by decide +kernel
theorem kb_int_str : kitB "int" "str" = some false := by decide +kernel
theorem kb_int_list : kitB "int" "list" = some false := by decide +kernel
theorem kb_int_tuple : kitB "int" "tuple" = some false := by decide +kernel
theorem kb_bool_int : kitB "bool" "int" = some true := by decide +kernel
theorem kb_bool_bool : kitB "bool" "bool" = some true := by decide +kernel
theorem kb_bool_str : kitB "bool" "str" = some false := by decide +kernel
theorem kb_bool_list : kitB "bool" "list" = some false := by decide +kernel
theorem kb_bool_tuple : kitB "bool" "tuple" = some false := by decide +kernel
theorem kb_str_int : kitB "str" "int" = some false := by decide +kernel
theorem kb_str_bool : kitB "str" "bool" = some false := by decide +kernel
theorem kb_str_str : kitB "str" "str" = some true := by decide +kernel
theorem kb_str_list : kitB "str" "list" = some false := by decide +kernel
theorem kb_str_tuple : kitB "str" "tuple" = some false := by decide +kernel
theorem kb_NoneType_int : kitB "NoneType" "int" = some false := by decide +kernel
theorem kb_NoneType_bool : kitB "NoneType" "bool" = some false := by decide +kernel
theorem kb_NoneType_str : kitB "NoneType" "str" = some false := by decide +kernel
theorem kb_NoneType_list : kitB "NoneType" "list" = some false := by decide +kernel
theorem kb_NoneType_tuple : kitB "NoneType" "tuple" = some false := by decide +kernel
theorem kb_list_int : kitB "list" "int" = some false := by decide +kernel
theorem kb_list_bool : kitB "list" "bool" = some false := by decide +kernel
theorem kb_list_str : kitB "list" "str" = some false := by decide +kernel
theorem kb_list_list : kitB "list" "list" = some true := by decide +kernel
theorem kb_list_tuple : kitB "list" "tuple" = some false := by decide +kernel
theorem kb_tuple_int : kitB "tuple" "int" = some false := by decide +kernel
theorem kb_tuple_bool : kitB "tuple" "bool" = some false := by decide +kernel
theorem kb_tuple_str : kitB "tuple" "str" = some false := by decide +kernel
theorem kb_tuple_list : kitB "tuple" "list" = some false := by decide +kernel
theorem kb_tuple_tuple : kitB "tuple" "tuple" = some true := by decide +kernel
theorem r_isi {x : V} {n m : String} {b : Bool} (ht : TyX K H x (.type m)) (hk : kitB m n = some b) (q : Q (.bl b) H) : rIsi K [x, .ty n] H Q := ⟨x, .ty n, _, _, b, rfl, .ty n, ht, kit_ty hk, q⟩
/-- int(an int), abs(an int) -/
def rInt1 : List V → Hp → VK → Prop := fun xs H Q => ∃ i, xs = [.int i] ∧ Q (.int i) H
def rAbs : List V → Hp → VK → Prop := fun xs H Q => ∃ i, xs = [.int i] ∧ Q (.int (if i < 0 then -i else i)) H
theorem call_intI {X : Cx} : CallR X (.type "int") rInt1 := by
  intro pins s σ H xs us Q I r h
  exact call_int1 pins s σ H xs us Q I r (.inl h)
theorem call_absI {X : Cx} : CallR X (.builtin "abs") rAbs := call_abs
theorem r_int {i : Int} (q : Q (.int i) H) : rInt1 [.int i] H Q := ⟨i, rfl, q⟩
theorem r_abs {i : Int} (q : Q (.int (if i < 0 then -i else i)) H) : rAbs [.int i] H Q := ⟨i, rfl, q⟩
theorem r_cS {l : List Nat} (q : Q (.str (S l)) H) : tC (.str (S l)) σ H Q := q
theorem r_cs {s : Str} (q : Q (.str (S s.cps.toList)) H) : tC (.str s) σ H Q := by
  have e : s = S s.cps.toList := by cases s; simp [S]
  show Q (.str s) H
  rw [e]; exact q
theorem r_cut {Mid : L2.St → Hp → Prop} (h : t { D with nx := Mid } σ H) (k : ∀ σ' H', Mid σ' H' → u D σ' H') : Evl.tCut t u D σ H := ⟨Mid, h, k⟩
theorem r_ite {p : Prop} [Decidable p] {A B : Prop} (h1 : p → A) (h2 : ¬ p → B) : if decide p = true then A else B := by
  by_cases h : p
  · rw [decide_eq_true h]; exact h1 h
  · rw [decide_eq_false h]; exact h2 h
theorem r_iteN {p : Prop} [Decidable p] {A B : Prop} (h1 : ¬ p → A) (h2 : p → B) : if (!decide p) = true then A else B := by
  by_cases h : p
  · rw [decide_eq_true h]; exact h2 h
  · rw [decide_eq_false h]; exact h1 h
theorem r_notNn (q : Q (.bl false) H) : rNotN .non .non H Q := ⟨rfl, q⟩
theorem r_notN_int {i : Int} (q : Q (.bl true) H) : rNotN (.int i) .non H Q := ⟨rfl, q⟩
theorem r_notN_str {i : Str} (q : Q (.bl true) H) : rNotN (.str i) .non H Q := ⟨rfl, q⟩
theorem r_notN_ref {i : Addr} (q : Q (.bl true) H) : rNotN (.ref i) .non H Q := ⟨rfl, q⟩
theorem r_isNn (q : Q (.bl true) H) : rIsN .non .non H Q := ⟨rfl, q⟩
theorem r_isN_int {i : Int} (q : Q (.bl false) H) : rIsN (.int i) .non H Q := ⟨rfl, q⟩
theorem r_isN_str {i : Str} (q : Q (.bl false) H) : rIsN (.str i) .non H Q := ⟨rfl, q⟩
theorem r_isN_ref {i : Addr} (q : Q (.bl false) H) : rIsN (.ref i) .non H Q := ⟨rfl, q⟩
theorem r_iteB {b : Bool} {A B : Prop} (h1 : b = true → A) (h2 : b = false → B) : if b = true then A else B := by
  cases b with
  | true => exact h1 rfl
  | false => exact h2 rfl
theorem r_T {A B : Prop} (h : A) : if true = true then A else B := h
theorem r_F {A B : Prop} (h : B) : if false = true then A else B := h
theorem r_nT {A B : Prop} (h : B) : if (!true) = true then A else B := h
theorem r_nF {A B : Prop} (h : A) : if (!false) = true then A else B := h
theorem r_iteNB {b : Bool} {A B : Prop} (h1 : b = false → A) (h2 : b = true → B) : if (!b) = true then A else B := by
  cases b with
  | true => exact h2 rfl
  | false => exact h1 rfl
end
theorem small {n : Nat} (h : n ≤ 1000000) : n ≤ sizeLine := by rw [sizeLine_eq]; omega
theorem lit (s : Str) : s = S s.cps.toList := by cases s; simp [S]


/-! ### comprehensions and loops -/
section
variable {σ : L2.St} {H H1 : Hp} {Q : VK} {D : Ends} {ta te tl : TE} {tb : TS} {tt : TT} {tA : TA} {j : Nat} {vs : List Nat} {K : PySem.W.Frag} {g : TG}
def LcP (J : It) (g : TG) (tt : TT) (te : TE) (vs : List Nat) (σ : L2.St) (H1 : Hp) (Q : VK) : Prop := ∀ D, H1 D = none → ∃ W : Nat → Nat → Hp → Prop, (∃ m, W 0 m (upd H1 D (.lst []))) ∧ ∀ i m H, W i m H →
      (J.stop i H ∧ Q (.ref D) H) ∨ (J.go i H ∧ ∃ Nx : Hp → Prop, (∀ H', Nx H' → ∃ m', m' < m ∧ W (i + 1) m' H') ∧ ∀ x H', J.yld i H x H' → g x (wipe σ vs) H' fun σ2 H2 => wipe σ2 vs = wipe σ vs ∧ tt σ2 H2 fun b H3 =>
        if b = true then te σ2 H3 fun y H4 => ∃ acc, H4 D = some (.lst acc) ∧ acc.length < sizeLine ∧ Nx (upd H4 D (.lst (acc ++ [y]))) else Nx H3)
def ForP (J : It) (g : TG) (tb : TS) (D : Ends) (σ : L2.St) (H1 : Hp) : Prop := ∃ W : Nat → Nat → L2.St → Hp → Prop, (∃ m, W 0 m σ H1) ∧ ∀ i m σ H, W i m σ H →
      (J.stop i H ∧ D.nx σ H) ∨ (J.go i H ∧ ∃ N : L2.St → Hp → Prop, (∀ σ' H', N σ' H' → ∃ m', m' < m ∧ W (i + 1) m' σ' H') ∧ ∀ x H', J.yld i H x H' → g x σ H' fun σ2 H2 => tb { D with nx := N, ct := N, bk := D.nx } σ2 H2)
theorem r_lcR1 (q : tA σ H fun xs H1 => ∃ n : Int, xs = [.int n] ∧ -(2 ^ 62) ≤ n ∧ n < 2 ^ 62 ∧ LcP (Itr 0 n.toNat) g tt te vs σ H1 Q) : tLc (iRng1 tA) g tt te vs σ H Q := q
theorem r_lcR2 (q : tA σ H fun xs H1 => ∃ i n : Int, xs = [.int i, .int n] ∧ (-(2 ^ 62) ≤ i ∧ i < 2 ^ 62 ∧ -(2 ^ 62) ≤ n ∧ n < 2 ^ 62) ∧ LcP (Itr i (n - i).toNat) g tt te vs σ H1 Q) : tLc (iRng2 tA) g tt te vs σ H Q := q
theorem r_lcL (q : tl σ H fun x H1 => ∃ a, x = .ref a ∧ (∃ xs, SqL K H1 a xs) ∧ LcP (Itl K a) g tt te vs σ H1 Q) : tLc (iList K tl) g tt te vs σ H Q := q
theorem r_lcT (q : tl σ H fun x H1 => ∃ a, x = .ref a ∧ (∃ xs, SqT K H1 a xs) ∧ LcP (Itt K a) g tt te vs σ H1 Q) : tLc (iTup K tl) g tt te vs σ H Q := q
theorem r_forR1 (q : tA σ H fun xs H1 => ∃ n : Int, xs = [.int n] ∧ -(2 ^ 62) ≤ n ∧ n < 2 ^ 62 ∧ ForP (Itr 0 n.toNat) g tb D σ H1) : tFor (iRng1 tA) g tb D σ H := q
theorem r_forR2 (q : tA σ H fun xs H1 => ∃ i n : Int, xs = [.int i, .int n] ∧ (-(2 ^ 62) ≤ i ∧ i < 2 ^ 62 ∧ -(2 ^ 62) ≤ n ∧ n < 2 ^ 62) ∧ ForP (Itr i (n - i).toNat) g tb D σ H1) : tFor (iRng2 tA) g tb D σ H := q
theorem r_forL (q : tl σ H fun x H1 => ∃ a, x = .ref a ∧ (∃ xs, SqL K H1 a xs) ∧ ForP (Itl K a) g tb D σ H1) : tFor (iList K tl) g tb D σ H := q
theorem r_forT (q : tl σ H fun x H1 => ∃ a, x = .ref a ∧ (∃ xs, SqT K H1 a xs) ∧ ForP (Itt K a) g tb D σ H1) : tFor (iTup K tl) g tb D σ H := q
theorem r_forS (q : tl σ H fun v H1 => ∃ x, v = .str x ∧ ForP (Its x) g tb D σ H1) : tFor (iStr tl) g tb D σ H := q
theorem r_forE (q : tA σ H fun xs H1 => ∃ l, xs = [.str (S l)] ∧ ForP (Iten (S l)) g tb D σ H1) : tFor (iEnumS tA) g tb D σ H := q
theorem r_rng1 {n : Int} {P : Int → Prop} (h : -1000000 ≤ n ∧ n ≤ 1000000) (q : P n) : ∃ m : Int, [V.int n] = [V.int m] ∧ -(2 ^ 62) ≤ m ∧ m < 2 ^ 62 ∧ P m := ⟨n, rfl, by omega, by omega, q⟩
theorem r_rng2 {i n : Int} {P : Int → Int → Prop} (h : -1000000 ≤ i ∧ i ≤ 1000000 ∧ -1000000 ≤ n ∧ n ≤ 1000000) (q : P i n) : ∃ k m : Int, [V.int i, V.int n] = [V.int k, V.int m] ∧ (-(2 ^ 62) ≤ k ∧ k < 2 ^ 62 ∧ -(2 ^ 62) ≤ m ∧ m < 2 ^ 62) ∧ P k m := ⟨i, n, rfl, ⟨by omega, by omega, by omega, by omega⟩, q⟩
theorem r_refL {a : Addr} {xs : List V} {P : Addr → Prop} (h : SqL K H a xs) (q : P a) : ∃ b, V.ref a = V.ref b ∧ (∃ xs, SqL K H b xs) ∧ P b := ⟨a, rfl, ⟨xs, h⟩, q⟩
theorem r_refT {a : Addr} {xs : List V} {P : Addr → Prop} (h : SqT K H a xs) (q : P a) : ∃ b, V.ref a = V.ref b ∧ (∃ xs, SqT K H b xs) ∧ P b := ⟨a, rfl, ⟨xs, h⟩, q⟩
theorem r_strE {l : List Nat} {P : List Nat → Prop} (q : P l) : ∃ m, [V.str (S l)] = [V.str (S m)] ∧ P m := ⟨l, rfl, q⟩

/-- behind i turns of a comprehension: acc made, the list at D -/
def LcI (J : Addr → Nat → List V → Hp → Prop) (D : Addr) (i : Nat) (H2 : Hp) : Prop := ∃ acc, H2 D = some (.lst acc) ∧ acc.length ≤ i ∧ J D i acc H2
theorem lc_end {J : Addr → Nat → List V → Hp → Prop} {D : Addr} {i : Nat} {acc : List V} {y : V} {H4 : Hp} (hi : i < 100000) (ha : acc.length ≤ i) (h : H4 D = some (.lst acc)) (k : J D (i + 1) (acc ++ [y]) (upd H4 D (.lst (acc ++ [y])))) :
    ∃ acc, H4 D = some (.lst acc) ∧ acc.length < sizeLine ∧ LcI J D (i + 1) (upd H4 D (.lst (acc ++ [y]))) :=
  ⟨acc, h, by rw [sizeLine_eq]; omega, acc ++ [y], upd_same, by rw [List.length_append, List.length_singleton]; omega, k⟩
theorem lc_skip {J : Addr → Nat → List V → Hp → Prop} {D : Addr} {i : Nat} {acc : List V} {H4 : Hp} (ha : acc.length ≤ i) (h : H4 D = some (.lst acc)) (k : J D (i + 1) acc H4) : LcI J D (i + 1) H4 := ⟨acc, h, by omega, k⟩
theorem lcR {lo : Int} {n : Nat} (J : Addr → Nat → List V → Hp → Prop) (hw : ∀ x, wipe ((wipe σ vs).set j (some x)) vs = wipe σ vs)
    (h0 : ∀ D, H1 D = none → J D 0 [] (upd H1 D (.lst [])))
    (hs : ∀ D i H2 acc, H1 D = none → i < n → H2 D = some (.lst acc) → acc.length ≤ i → J D i acc H2 → tt ((wipe σ vs).set j (some (.int (lo + i)))) H2 fun b H3 =>
      if b = true then te ((wipe σ vs).set j (some (.int (lo + i)))) H3 fun y H4 => ∃ acc, H4 D = some (.lst acc) ∧ acc.length < sizeLine ∧ LcI J D (i + 1) (upd H4 D (.lst (acc ++ [y]))) else LcI J D (i + 1) H3)
    (hd : ∀ D H2 acc, H1 D = none → H2 D = some (.lst acc) → J D n acc H2 → Q (.ref D) H2) : LcP (Itr lo n) (gName j) tt te vs σ H1 Q := fun D hD =>
  lc_range (LcI J D) ⟨[], upd_same, Nat.le_refl _, h0 D hD⟩
    (fun i H2 hi ⟨acc, h1, h2, h3⟩ => ⟨hw _, hs D i H2 acc hD hi h1 h2 h3⟩) (fun H2 ⟨acc, h1, h2, h3⟩ => hd D H2 acc hD h1 h3)
theorem lcL {a : Addr} {xs : List V} (J : Addr → Nat → List V → Hp → Prop) (hw : ∀ x, wipe ((wipe σ vs).set j (some x)) vs = wipe σ vs)
    (h0 : ∀ D, H1 D = none → J D 0 [] (upd H1 D (.lst []))) (hl : ∀ D i H2 acc, H1 D = none → J D i acc H2 → SqL K H2 a xs)
    (hs : ∀ D i x H2 acc, H1 D = none → xs[i]? = some x → H2 D = some (.lst acc) → acc.length ≤ i → J D i acc H2 → tt ((wipe σ vs).set j (some x)) H2 fun b H3 =>
      if b = true then te ((wipe σ vs).set j (some x)) H3 fun y H4 => ∃ acc, H4 D = some (.lst acc) ∧ acc.length < sizeLine ∧ LcI J D (i + 1) (upd H4 D (.lst (acc ++ [y]))) else LcI J D (i + 1) H3)
    (hd : ∀ D H2 acc, H1 D = none → H2 D = some (.lst acc) → J D xs.length acc H2 → Q (.ref D) H2) : LcP (Itl K a) (gName j) tt te vs σ H1 Q := fun D hD =>
  lc_list (xs := xs) (LcI J D) ⟨[], upd_same, Nat.le_refl _, h0 D hD⟩ (fun i H2 _ ⟨acc, _, _, h3⟩ => hl D i H2 acc hD h3)
    (fun i x H2 hi ⟨acc, h1, h2, h3⟩ => ⟨hw _, hs D i x H2 acc hD hi h1 h2 h3⟩) (fun H2 ⟨acc, h1, h2, h3⟩ => hd D H2 acc hD h1 h3)
theorem lcT {a : Addr} {xs : List V} (J : Addr → Nat → List V → Hp → Prop) (hw : ∀ x, wipe ((wipe σ vs).set j (some x)) vs = wipe σ vs)
    (h0 : ∀ D, H1 D = none → J D 0 [] (upd H1 D (.lst []))) (hl : ∀ D i H2 acc, H1 D = none → J D i acc H2 → SqT K H2 a xs)
    (hs : ∀ D i x H2 acc, H1 D = none → xs[i]? = some x → H2 D = some (.lst acc) → acc.length ≤ i → J D i acc H2 → tt ((wipe σ vs).set j (some x)) H2 fun b H3 =>
      if b = true then te ((wipe σ vs).set j (some x)) H3 fun y H4 => ∃ acc, H4 D = some (.lst acc) ∧ acc.length < sizeLine ∧ LcI J D (i + 1) (upd H4 D (.lst (acc ++ [y]))) else LcI J D (i + 1) H3)
    (hd : ∀ D H2 acc, H1 D = none → H2 D = some (.lst acc) → J D xs.length acc H2 → Q (.ref D) H2) : LcP (Itt K a) (gName j) tt te vs σ H1 Q := fun D hD =>
  lc_tup (xs := xs) (LcI J D) ⟨[], upd_same, Nat.le_refl _, h0 D hD⟩ (fun i H2 _ ⟨acc, _, _, h3⟩ => hl D i H2 acc hD h3)
    (fun i x H2 hi ⟨acc, h1, h2, h3⟩ => ⟨hw _, hs D i x H2 acc hD hi h1 h2 h3⟩) (fun H2 ⟨acc, h1, h2, h3⟩ => hd D H2 acc hD h1 h3)
/-- loops, by what holds behind i turns -/
theorem forR {lo : Int} {n : Nat} (J : Nat → L2.St → Hp → Prop) (h0 : J 0 σ H1)
    (hs : ∀ i σ H, i < n → J i σ H → g (.int (lo + i)) σ H fun σ2 H2 => tb { D with nx := J (i + 1), ct := J (i + 1), bk := D.nx } σ2 H2) (hd : ∀ σ H, J n σ H → D.nx σ H) : ForP (Itr lo n) g tb D σ H1 := for_range J h0 hs hd
theorem forL {a : Addr} {xs : List V} (J : Nat → L2.St → Hp → Prop) (h0 : J 0 σ H1) (hl : ∀ i σ H, i ≤ xs.length → J i σ H → SqL K H a xs)
    (hs : ∀ i x σ H, xs[i]? = some x → J i σ H → g x σ H fun σ2 H2 => tb { D with nx := J (i + 1), ct := J (i + 1), bk := D.nx } σ2 H2) (hd : ∀ σ H, J xs.length σ H → D.nx σ H) : ForP (Itl K a) g tb D σ H1 := for_list J h0 hl hs hd
theorem forT {a : Addr} {xs : List V} (J : Nat → L2.St → Hp → Prop) (h0 : J 0 σ H1) (hl : ∀ i σ H, i ≤ xs.length → J i σ H → SqT K H a xs)
    (hs : ∀ i x σ H, xs[i]? = some x → J i σ H → g x σ H fun σ2 H2 => tb { D with nx := J (i + 1), ct := J (i + 1), bk := D.nx } σ2 H2) (hd : ∀ σ H, J xs.length σ H → D.nx σ H) : ForP (Itt K a) g tb D σ H1 := for_tup J h0 hl hs hd
theorem forE {l : List Nat} (J : Nat → L2.St → Hp → Prop) (h0 : J 0 σ H1)
    (hs : ∀ i c σ H T, l[i]? = some c → J i σ H → H T = none → g (.ref T) σ (upd H T (.tup [.int (i : Nat), .str (S [c])])) fun σ2 H2 => tb { D with nx := J (i + 1), ct := J (i + 1), bk := D.nx } σ2 H2) (hd : ∀ σ H, J l.length σ H → D.nx σ H) : ForP (Iten (S l)) g tb D σ H1 := for_enumS J h0 hs hd
end
end Fg

set_option Elab.async false
set_option linter.all false
set_option maxRecDepth 100000
set_option maxHeartbeats 4000000
/-! isinstance of a caught error whose class has its own __init__ (its dict is there) -/
namespace PySem.W
open PySem PySem.Spec PySem.Calls PyProof.Rows
section
variable {prog : Program} {w : World} {A : Around} {E : Value → Shared → Prop} {s : Shared} {K : Frag} {x D : Addr} {ox oi : Obj}
theorem fg_class {Q : Option Value → Shared → Prop} (C : L2.ExcC K D) (X : K.In s.heap) (I : InstAt s.heap x ox D (some oi)) (h : Q (some (.ref D)) { s with toks := s.toks + 1 }) : wpAny (model prog w) A (getAttr? (.ref x) "__class__") Q E s := by
  have hf : findObj K D (some oi) "__class__" = some (.bind (.builtin "getset_descriptor.__get__") (.builtin "object.__class__")) := findObj_data (by obtain ⟨cd, e, _⟩ := any_some C.hd; rw [e]; rfl) C.ha C.hn C.ht
  obtain ⟨hp, g, dr, tk, os⟩ := s
  have ty := I.type (M := model prog w)
  have ge := looks_findIn (M := model prog w) X C.hg
  have ho := looks_findIn (M := model prog w) X C.hk
  have fi := looks_find (M := model prog w) X I hf
  have be : Looks (model prog w) hp (isInstance (.ref x) (.type "BaseException")) true := ty.andThen (looks_subIn X C.hs)
  have ne : (Value.builtin "BaseException.__getattribute__" == Value.builtin "object.__getattribute__") = false := by decide +kernel
  unfold getAttr? getAttrBy? getAttrBy
  refine wpAny_bind (wpAny_mkText (wpAny_bind (wpAny_attempt (wpAny_holding (wpAny_bind (ty.at (wpAny_bind (ge.at ?_))))))))
  show wpAny _ _ (if (onTheHeap (Value.ref D) && (Value.builtin "BaseException.__getattribute__" == Value.builtin "object.__getattribute__")) = true then _ else _) _ _ _
  rw [ne, Bool.and_false, if_neg Bool.false_ne_true]
  unfold getAttrByItsOwn hookBefore
  rw [if_pos (show onTheHeap (Value.ref D) = true from rfl)]
  refine wpAny_bind (ho.at (wpAny_bind (wpAny_attempt (wpAny_holding ?_))))
  unfold callGetattribute
  rw [show (false && onTheHeap (Value.builtin "BaseException.__getattribute__")) = false from rfl, if_neg Bool.false_ne_true]
  unfold boundAndCalled
  rw [PySem.F.excAttr_ValueError.ga.bind (.ref x)]
  refine wpAny_bind (wpAny_pure ?_)
  refine wpAny_call (codeAny_call_builtin PySem.F.excAttr_ValueError.ga.plain PySem.F.entry_bexc_ga (@check_slot (model prog w) _ _ ⟨hp, g, dr, tk + 1, os⟩ "BaseException.__getattribute__" "BaseException" "__getattribute__" (.ref x) [.str "__class__" tk] [] _ (by decide +kernel) (by decide +kernel) be (PySem.F.args_bexc_ga (.ref x) (.str "__class__" tk)) ?_))
  unfold Builtin.«object.__getattribute__»
  refine wpAny_bind (wpAny_of_eq (a := ((Value.ref x : Value), [Value.str "__class__" tk])) (by first | rfl | (simp only [slotArgs]; rfl)) (wpAny_bind (wpAny_pure (wpAny_bind (ty.at (wpAny_bind (fi.at ?_)))))))
  show wpAny _ _ (holding [Value.builtin "object.__class__"] (call (.builtin "getset_descriptor.__get__") [.builtin "object.__class__", .ref x, .ref D]) >>= ret) _ _ _
  refine wpAny_bind (wpAny_holding (wpAny_call (class_get (s := ⟨hp, g, dr, tk + 1, os⟩) (ox := ox) (od := some oi) X I C.hm ?_)))
  refine wpAny_pure ?_
  show wpAny _ _ (handedOut (.ref D)) _ _ _
  rw [handedOut_of (v := .ref D) rfl]
  first
    | exact wpAny_pure (wpAny_pure h)
    | exact wpAny_pure h
    | exact wpAny_pure (wpAny_bind (wpAny_pure (wpAny_pure h)))
theorem fg_kitx (C : L2.ExcC K D) : KitX K (.ref x) (.ref D) (fun h => InstAt h x ox D (some oi)) where
  ty := fun _ _ _ I => I.type
  it := fun _ _ X _ => by
    obtain ⟨cd, hc, _⟩ := any_some C.hd
    unfold clsIn at hc
    split at hc
    · rename_i ho
      intro A' Q' E' s' k q
      unfold isType loadHead
      exact wpAny_bind (wpAny_loadPart (k _ _ (X _ _ ho)) (wpAny_pure q))
    · cases hc
  ne := fun h tp dd its n sl X htp => by
    obtain ⟨cd, hc, _⟩ := any_some C.hd
    refine Bool.eq_false_iff.mpr fun q => ?_
    have e : D = tp := Value.ref.inj (beq_iff_eq.mp q)
    subst e
    unfold clsIn at hc
    split at hc
    · rename_i ho
      have z := (X _ _ ho).symm.trans htp
      cases z
    · cases hc
  ca := fun X I k => fg_class C X I k
end
end PySem.W
namespace Fg
open PySem PySem.Spec PyProof.Rows L2
/-- isinstance(e, c), e the exception that the suite holds at a, of the class cls, its dict d -/
def rIsX (K : PySem.W.Frag) (a : Addr) (cls : Value) (d : Option Addr) : List V → Hp → VK → Prop := fun xs H Q => ∃ (D : Addr) (c : V) (cv : Value) (b : Bool) (dd : Addr) (fs : List (Str × V)), xs = [.ref a, c] ∧ (∀ u, RelV c u → u = cv) ∧ cls = .ref D ∧ ExcC K D ∧ PySem.W.kitOne K (.ref D) cv = some b ∧
  d = some dd ∧ H dd = some (.xd fs) ∧ Q (.bl b) H
theorem call_isX {X : Cx} {a : Addr} {cls : Value} {d : Option Addr} {oe : Obj} {pn : List (Addr × Obj)} (hz : Zc cls d oe) (hf : ∃ vs, oe.data = .fields vs) : CallR (X.suite a ((a, oe) :: pn)) (.builtin "isinstance") (rIsX X.K a cls d) := by
  intro pins s σ H xs us Q I r h
  obtain ⟨D, c, cv, b, dd, fs, rfl, hcv, rfl, C, e, rfl, hdd, q⟩ := h
  cases r with
  | cons rx rr =>
    cases rr with
    | cons rt rr =>
      cases rr
      cases rx
      have ec := hcv _ rt
      subst ec
      obtain ⟨hget, _⟩ := I.pin (a, oe) (List.mem_append.mpr (.inl List.mem_cons_self))
      obtain ⟨vs, hv⟩ := hf
      have hx : ObjOk X.prog X.w H s.heap dd (.xd fs) := I.hok dd _ hdd
      obtain ⟨mA, hns, hr⟩ := hx
      obtain ⟨od, ho, hl⟩ := lookIn_ns hns
      have J : PySem.W.InstAt s.heap a oe D (some od) := ⟨hget, hz.1, by unfold PySem.W.notCls; rw [hv] <;> rfl, by rw [hz.2]; exact ho⟩
      exact PySem.W.kia_one (PySem.W.fg_kitx C) I.kIn J e (fun z => nomatch z) fun tk => ⟨.bl b, H, I.kept (t' := tk) fun _ _ z => z, rfl, q⟩

/-! ### errors with one field -/
def spInit (C : Addr) (fld : Str) : Sp := fun vs H Q _ => ∃ (a : Addr) (v : V), vs = [.ref a, v] ∧ H a = some (exo a C none) ∧ ∀ dx, H dx = none → dx ≠ a → Q .non (upd (upd H dx (exd dx [(fld, v)])) a (exo a C (some dx)))
structure Err (P : Program) (w : World) (K : PySem.W.Frag) (mg : Str → Option Value) (base : Heap) (x : Str) (C : Addr) (fld : Str) : Prop where
  g : mg x = some (.ref C)
  o : OexC K C
  xf : XfC K C
  xc : ExcC K C
  noN : PySem.W.findIn K (.ref C) fld = some none
  ini : ∃ (fI : Addr) (fd : FuncData) (ps : List Str), PySem.W.findIn K (.ref C) "__init__" = some (some (.ref fI)) ∧ PySem.W.typeIn K (.ref fI) = some (.type "function") ∧ FnOk P w K mg base L2.CX0 1 fI fd ps (spInit C fld) ∧ Binds K fd ps []
section
variable {X : Cx} {x : Str} {C : Addr} {fld : Str} {j : Nat} {e : Expr} {es : List Expr} {ta : TA} {p pos : Pos}
theorem pmk_err (E : Err X.prog X.w X.K X.mg X.base x C fld) (hr : Room j X.A) (hj : 2 ≤ j) (hg : Gl X x) (ha : PA X (e :: es) ta)
    (hdb : (x == ("__debug__" : Str)) = false := by decide) (he : starEach (e :: es) X.env = (false, eval e X.env) :: starEach es X.env := by rfl) (hpl : (backTo pos (starEach es X.env)).any (·.1) = false := by rfl) :
    PMk X (.Call (.Name x p) (e :: es) [] pos) (tMkO C (spInit C fld) [] ta) := by
  obtain ⟨fI, fd, ps, iC, tI, F, b⟩ := E.ini
  exact pmk_oex E.o iC tI F (hr.mono hj) b .nil L2.pass0 hg E.g ha hdb he hpl
end
theorem r_mko {σ : L2.St} {H : Hp} {ta : TA} {C : Addr} {fld : Str} {Q : XK} (q : ta σ H fun vs H1 => vs.length ≤ 1000 ∧ ∀ a, H1 a = none → spInit C fld (.ref a :: (vs ++ [])) (upd H1 a (exo a C none))
  (fun v H2 => v = .non ∧ ∃ (d : Addr) (fs : List (Str × V)), H2 a = some (exo a C (some d)) ∧ H2 d = some (exd d fs) ∧ H1 d = none ∧ Q (.ref C) (some d) (upd (del H2 a) d (.xd fs))) (fun _ _ _ => False)) : tMkO C (spInit C fld) [] ta σ H Q := q
/-- what is raised: the error of this class, whose dict is new -/
def Wish (C : Addr) (fld : Str) (v : V) (H : Hp) (E : XK) : Prop := ∀ d H', H d = none → Ex H H' → H' d = some (.xd [(fld, v)]) → E (.ref C) (some d) H'
theorem Wish.ex {C : Addr} {fld : Str} {v : V} {H H1 : Hp} {E : XK} (w : Wish C fld v H E) (e : Ex H H1) : Wish C fld v H1 E := fun d H' hd ex h => w d H' (Evl.fresh_back e hd) (e.trans ex) h
theorem r_mk {H1 : Hp} {C : Addr} {fld : Str} {v : V} {Q : XK} (q : Wish C fld v H1 Q) : [v].length ≤ 1000 ∧ ∀ a, H1 a = none → spInit C fld (.ref a :: ([v] ++ [])) (upd H1 a (exo a C none))
  (fun u H2 => u = .non ∧ ∃ (d : Addr) (fs : List (Str × V)), H2 a = some (exo a C (some d)) ∧ H2 d = some (exd d fs) ∧ H1 d = none ∧ Q (.ref C) (some d) (upd (del H2 a) d (.xd fs))) (fun _ _ _ => False) := by
  refine ⟨by show 1 ≤ 1000; decide, fun a ha => ⟨a, v, rfl, upd_same, fun dx hd ne => ⟨rfl, dx, [(fld, v)], upd_same, ?_, ?_, ?_⟩⟩⟩
  · rw [upd_ne ne, upd_same]
  · rw [upd_ne ne] at hd
    exact hd
  · rw [upd_ne ne] at hd
    refine q dx _ hd (fun b o hb => ?_) upd_same
    have n1 : b ≠ dx := ne_of_none hb hd
    have n2 : b ≠ a := ne_of_none hb ha
    rw [upd_ne n1, del_ne n2, upd_ne n2, upd_ne n1, upd_ne n2]
    exact hb
theorem r_xf {σ : L2.St} {H : Hp} {Q : VK} {a C : Addr} {cls : Value} {d : Option Addr} {fld : Str} {te : TE} (q : te σ H fun x H1 => x = .ref a ∧ cls = .ref C ∧ ∃ (dd : Addr) (fs : List (Str × V)) (v : V), d = some dd ∧ H1 dd = some (.xd fs) ∧ fs.lookup fld = some v ∧ Q v H1) : tXf a cls d C fld te σ H Q := q
theorem op_eqK {X : Cx} {K : PySem.W.Frag} {k : Nat} {A : Around} (hr : Room k A) (e : X.K = K := by rfl) (e2 : X.A.units = A.units := by rfl) : OpR X (compareOp .Eq) (rEqD K) := by
  rw [← e]; exact op_eqD (by rw [e2]; exact hu64 hr)
theorem r_wAs {K : PySem.W.Frag} {c : Value} {i : Nat} {ts : Addr → Value → Option Addr → TS} {Wout : WX} {D : Ends} {cls : Value} {d : Option Addr} {σ : L2.St} {H : Hp} (k : PySem.W.exmOne K cls c = some true)
    (q : ∀ a, H a = none → ts a cls d { nx := fun σ' H' => D.nx (σ'.set i none) H', rt := D.rt, bk := fun σ' H' => D.bk (σ'.set i none) H', ct := fun σ' H' => D.ct (σ'.set i none) H' } (σ.set i (some (.ref a))) H) : WE (wAs K c i ts Wout D) σ cls d H :=
  ⟨true, k, fun _ => q, fun z => nomatch z⟩
/-- a pair unpacked into two names -/
theorem r_gtup2 {K : PySem.W.Frag} {σ : L2.St} {H : Hp} {a : Addr} {i j : Nat} {x y : V} {Q : L2.St → Hp → Prop} (h : SqT K H a [x, y]) (q : Q ((σ.set i (some x)).set j (some y)) H) : gTup K 2 (gCons (gName i) (gCons (gName j) gNil)) (.ref a) σ H Q :=
  ⟨a, [x, y], rfl, h, rfl, x, [y], rfl, y, [], rfl, rfl, q⟩
end Fg

set_option Elab.async false
set_option linter.all false
set_option maxRecDepth 100000
set_option maxHeartbeats 4000000
namespace Fg
open PySem PySem.Spec PyProof.Rows L2
/-! ### what the top has written -/
section
variable {K : PySem.W.Frag} {h : Heap} {mg : Str → Option Value}
theorem defd_mk {x : Str} {st : Stmt} {ps : List Str} {f : Addr} {oc : Value} {od an : Option Addr} {osl : Array (Option Value)} {kV doc pm cdv ct : Value} (X : K.In h) (G : h.Ns mainGlobals mg)
    (a : PySem.W.nsIn K mainGlobals x = some (some (.ref f)))
    (l : K.lookup f = some ⟨oc, od, .func (PySem.W.fnOf x x (defArgs st) (defBody st) (defScope st) .none kV doc pm an cdv ct), osl⟩)
    (c : PySem.W.codeIn K cdv x = true) (k : PySem.W.keepIn K (.ref f) = true)
    (b : ∀ (kV doc pm : Value) (an : Option Addr) (cdv ct : Value) (us : List Value), us.length = ps.length → bindArgs (PySem.W.fnOf x x (defArgs st) (defBody st) (defScope st) .none kV doc pm an cdv ct) ⟨us, []⟩ = pure (ps.zip us)) : Defd K mg x st ps :=
  ⟨f, _, fun_mk l c k, PySem.W.mg_of X G a, (fun_mk l c k).binds b⟩
theorem lawd_mk {x p : Str} {st : Stmt} {f : Addr} {oc : Value} {od an : Option Addr} {osl : Array (Option Value)} {kV doc pm cdv ct : Value} (X : K.In h) (G : h.Ns mainGlobals mg)
    (a : PySem.W.nsIn K mainGlobals x = some (some (.ref f)))
    (l : K.lookup f = some ⟨oc, od, .func (PySem.W.fnOf x x (defArgs st) (defBody st) (defScope st) .none kV doc pm an cdv ct), osl⟩)
    (c : PySem.W.codeIn K cdv x = true) (k : PySem.W.keepIn K (.ref f) = true)
    (b : ∀ (kV doc pm : Value) (an : Option Addr) (cdv ct : Value) (us : List Value), us.length = [p].length → bindArgs (PySem.W.fnOf x x (defArgs st) (defBody st) (defScope st) .none kV doc pm an cdv ct) ⟨us, []⟩ = pure ([p].zip us)) :
    ∃ (f : Addr) (fd : FuncData), (∀ (s : Shared) (u : Value), BindsTo s fd ⟨[u], []⟩ [(p, u)]) ∧ Fun K x x st f fd ∧ mg x = some (.ref f) :=
  ⟨f, _, fun s u => .of_eq (b _ _ _ _ _ _ [u] rfl), fun_mk l c k, PySem.W.mg_of X G a⟩
theorem const_mk {x : Str} {v : Value} {y : V} (X : K.In h) (G : h.Ns mainGlobals mg) (a : PySem.W.nsIn K mainGlobals x = some (some v)) (e : RelV y v) : ∃ u, mg x = some u ∧ RelV y u := ⟨v, PySem.W.mg_of X G a, e⟩
theorem bi_mk (X : K.In h) (G : h.Ns mainGlobals mg) (z0 : PySem.W.nsIn K mainGlobals "len" = some none) (z1 : PySem.W.nsIn K mainGlobals "int" = some none) (z2 : PySem.W.nsIn K mainGlobals "str" = some none) (z3 : PySem.W.nsIn K mainGlobals "bool" = some none) (z4 : PySem.W.nsIn K mainGlobals "list" = some none) (z5 : PySem.W.nsIn K mainGlobals "tuple" = some none) (z6 : PySem.W.nsIn K mainGlobals "sum" = some none) (z7 : PySem.W.nsIn K mainGlobals "abs" = some none) (z8 : PySem.W.nsIn K mainGlobals "min" = some none) (z9 : PySem.W.nsIn K mainGlobals "max" = some none) (z10 : PySem.W.nsIn K mainGlobals "sorted" = some none) (z11 : PySem.W.nsIn K mainGlobals "all" = some none) (z12 : PySem.W.nsIn K mainGlobals "any" = some none) (z13 : PySem.W.nsIn K mainGlobals "isinstance" = some none) (z14 : PySem.W.nsIn K mainGlobals "range" = some none) (z15 : PySem.W.nsIn K mainGlobals "enumerate" = some none) (z16 : PySem.W.nsIn K mainGlobals "zip" = some none) (z17 : PySem.W.nsIn K mainGlobals "ValueError" = some none) : Bi mg :=
  ⟨PySem.W.mg_none_of X G z0, PySem.W.mg_none_of X G z1, PySem.W.mg_none_of X G z2, PySem.W.mg_none_of X G z3, PySem.W.mg_none_of X G z4, PySem.W.mg_none_of X G z5, PySem.W.mg_none_of X G z6, PySem.W.mg_none_of X G z7, PySem.W.mg_none_of X G z8, PySem.W.mg_none_of X G z9, PySem.W.mg_none_of X G z10, PySem.W.mg_none_of X G z11, PySem.W.mg_none_of X G z12, PySem.W.mg_none_of X G z13, PySem.W.mg_none_of X G z14, PySem.W.mg_none_of X G z15, PySem.W.mg_none_of X G z16, PySem.W.mg_none_of X G z17⟩
/-- what the written part says of a class of errors with its own __init__ -/
structure ErrC (K : PySem.W.Frag) (x qual fld : Str) (st : Stmt) (ps : List Str) (C : Addr) : Prop where
  ns : PySem.W.nsIn K mainGlobals x = some (some (.ref C))
  o : OexC K C
  xf : XfC K C
  xc : ExcC K C
  noN : PySem.W.findIn K (.ref C) fld = some none
  ini : ∃ (fI : Addr) (fd : FuncData), PySem.W.findIn K (.ref C) "__init__" = some (some (.ref fI)) ∧ PySem.W.typeIn K (.ref fI) = some (.type "function") ∧ Fun K "__init__" qual st fI fd ∧ Binds K fd ps []
theorem err_mk {P : Program} {w : World} {base : Heap} {x qual fld : Str} {st : Stmt} {ps : List Str} {C : Addr} (X : K.In h) (G : h.Ns mainGlobals mg) (e : ErrC K x qual fld st ps C)
    (F : ∀ fI fd, Fun K "__init__" qual st fI fd → FnOk P w K mg base L2.CX0 1 fI fd ps (spInit C fld)) : Err P w K mg base x C fld := by
  obtain ⟨fI, fd, h1, h2, h3, h4⟩ := e.ini
  exact ⟨PySem.W.mg_of X G e.ns, e.o, e.xf, e.xc, e.noN, fI, fd, ps, h1, h2, F fI fd h3, h4⟩
theorem defd_do {R : Prop} (X : K.In h) (G : h.Ns mainGlobals mg) (x : Str) (st : Stmt) (ps : List Str) {f : Addr} {oc : Value} {od an : Option Addr} {osl : Array (Option Value)} {kV doc pm cdv ct : Value}
    (a : PySem.W.nsIn K mainGlobals x = some (some (.ref f)))
    (l : K.lookup f = some ⟨oc, od, .func (PySem.W.fnOf x x (defArgs st) (defBody st) (defScope st) .none kV doc pm an cdv ct), osl⟩)
    (c : PySem.W.codeIn K cdv x = true) (k : PySem.W.keepIn K (.ref f) = true)
    (b : ∀ (kV doc pm : Value) (an : Option Addr) (cdv ct : Value) (us : List Value), us.length = ps.length → bindArgs (PySem.W.fnOf x x (defArgs st) (defBody st) (defScope st) .none kV doc pm an cdv ct) ⟨us, []⟩ = pure (ps.zip us))
    (n : Defd K mg x st ps → R) : R := n (defd_mk X G a l c k b)
theorem lawd_do {R : Prop} (X : K.In h) (G : h.Ns mainGlobals mg) (x : Str) (st : Stmt) (p : Str) {f : Addr} {oc : Value} {od an : Option Addr} {osl : Array (Option Value)} {kV doc pm cdv ct : Value}
    (a : PySem.W.nsIn K mainGlobals x = some (some (.ref f)))
    (l : K.lookup f = some ⟨oc, od, .func (PySem.W.fnOf x x (defArgs st) (defBody st) (defScope st) .none kV doc pm an cdv ct), osl⟩)
    (c : PySem.W.codeIn K cdv x = true) (k : PySem.W.keepIn K (.ref f) = true)
    (b : ∀ (kV doc pm : Value) (an : Option Addr) (cdv ct : Value) (us : List Value), us.length = [p].length → bindArgs (PySem.W.fnOf x x (defArgs st) (defBody st) (defScope st) .none kV doc pm an cdv ct) ⟨us, []⟩ = pure ([p].zip us))
    (n : ∀ (f : Addr) (fd : FuncData), (∀ (s : Shared) (u : Value), BindsTo s fd ⟨[u], []⟩ [(p, u)]) → Fun K x x st f fd → mg x = some (.ref f) → R) : R := by
  obtain ⟨f, fd, h1, h2, h3⟩ := lawd_mk X G a l c k b
  exact n f fd h1 h2 h3
theorem errc_do {R : Prop} (X : K.In h) (x qual fld : Str) (st : Stmt) (ps : List Str) {nm q : Str} {C f N : Addr} {bs bm sub : List Value} {sn : List Str} {ab : Bool} {col : Option Bool} {dd : Option Addr} {k0 k1 k2 k3 k5 : Option Value} {oc : Value} {od an : Option Addr} {osl : Array (Option Value)} {kV doc pm cdv ct : Value}
    (a1 : PySem.W.nsIn K mainGlobals x = some (some (.ref C)))
    (a2 : K.lookup C = some (excClassObj nm q C N bs bm true sn sub ab col dd k0 k1 k2 k3 k5 "ValueError.__new__"))
    (a4 : PySem.W.findIn K (.ref C) "__setattr__" = some (some (.builtin "object.__setattr__")))
    (a5 : PySem.W.subIn K (.ref C) (.type "BaseException") = some true) (a6 : PySem.W.typeIn K (.ref C) = some (.type "type")) (a7 : PySem.W.keepIn K (.ref C) = true)
    (a8 : PySem.W.findIn K (.ref C) "__getattribute__" = some (some (.builtin "BaseException.__getattribute__"))) (a9 : PySem.W.findIn K (.ref C) "__getattr__" = some none)
    (b1 : PySem.W.hasDictIn K C = true) (b2 : PySem.W.findIn K (.ref C) "__class__" = some (some (.builtin "object.__class__")))
    (b3 : PySem.W.specialIn K (.builtin "object.__class__") "__get__" = some (some (.builtin "getset_descriptor.__get__"))) (b4 : PySem.W.takesIn K (.builtin "object.__class__") = some true)
    (b5 : PySem.W.mroIn K C (.type "object") = some true) (b6 : PySem.W.findIn K (.ref C) fld = some none)
    (b7 : PySem.W.findIn K (.ref C) "__init__" = some (some (.ref f))) (b8 : PySem.W.typeIn K (.ref f) = some (.type "function"))
    (b9 : K.lookup f = some ⟨oc, od, .func (PySem.W.fnOf "__init__" qual (defArgs st) (defBody st) (defScope st) .none kV doc pm an cdv ct), osl⟩)
    (c1 : PySem.W.codeIn K cdv qual = true) (c2 : PySem.W.keepIn K (.ref f) = true)
    (b : ∀ (kV doc pm : Value) (an : Option Addr) (cdv ct : Value) (us : List Value), us.length = ps.length → bindArgs (PySem.W.fnOf "__init__" qual (defArgs st) (defBody st) (defScope st) .none kV doc pm an cdv ct) ⟨us, []⟩ = pure (ps.zip us))
    (a3 : PySem.HandSPX.refsVE bm = true) (n : ErrC K x qual fld st ps C → R) : R := by
  refine n ⟨a1, ⟨⟨nm, q, N, bs, bm, sn, sub, ab, col, dd, k0, k1, k2, k3, k5, a2, a3⟩, a4, a5, a6, a7⟩, ⟨a8, a9, a5, b1⟩, ⟨a8, a9, a5, b1, b2, b3, b4, b5⟩, b6, f, _, b7, b8, fun_mk b9 c1 c2, (fun_mk b9 c1 c2).binds b⟩
theorem bi_do {R : Prop} (X : K.In h) (G : h.Ns mainGlobals mg) (z0 : PySem.W.nsIn K mainGlobals "len" = some none) (z1 : PySem.W.nsIn K mainGlobals "int" = some none) (z2 : PySem.W.nsIn K mainGlobals "str" = some none) (z3 : PySem.W.nsIn K mainGlobals "bool" = some none) (z4 : PySem.W.nsIn K mainGlobals "list" = some none) (z5 : PySem.W.nsIn K mainGlobals "tuple" = some none) (z6 : PySem.W.nsIn K mainGlobals "sum" = some none) (z7 : PySem.W.nsIn K mainGlobals "abs" = some none) (z8 : PySem.W.nsIn K mainGlobals "min" = some none) (z9 : PySem.W.nsIn K mainGlobals "max" = some none) (z10 : PySem.W.nsIn K mainGlobals "sorted" = some none) (z11 : PySem.W.nsIn K mainGlobals "all" = some none) (z12 : PySem.W.nsIn K mainGlobals "any" = some none) (z13 : PySem.W.nsIn K mainGlobals "isinstance" = some none) (z14 : PySem.W.nsIn K mainGlobals "range" = some none) (z15 : PySem.W.nsIn K mainGlobals "enumerate" = some none) (z16 : PySem.W.nsIn K mainGlobals "zip" = some none) (z17 : PySem.W.nsIn K mainGlobals "ValueError" = some none) (n : Bi mg → R) : R := n (bi_mk X G z0 z1 z2 z3 z4 z5 z6 z7 z8 z9 z10 z11 z12 z13 z14 z15 z16 z17)
theorem glob_do {R : Prop} (X : K.In h) (G : h.Ns mainGlobals mg) (x : Str) {v : Value} (a : PySem.W.nsIn K mainGlobals x = some (some v)) (n : mg x = some v → R) : R := n (PySem.W.mg_of X G a)
end
theorem exm_mk {K : PySem.W.Frag} {C S : Addr} (h1 : PySem.W.subIn K (.ref S) (.type "BaseException") = some true) (h2 : PySem.W.isClsIn K S = true) (h3 : PySem.W.typeIn K (.ref S) = some (.type "type")) (h4 : PySem.W.subIn K (.ref C) (.ref S) = some true) :
    PySem.W.exmOne K (.ref C) (.ref S) = some true := by
  have e1 : (PySem.W.subIn K (.ref S) (.type "BaseException") == some true) = true := by rw [h1] <;> rfl
  have e2 : ((PySem.W.clsIn K S).isSome && PySem.W.typeIn K (.ref S) == some (.type "type")) = true := by
    have h2' : (PySem.W.clsIn K S).isSome = true := h2
    rw [h2', h3] <;> rfl
  show (if (PySem.W.subIn K (.ref S) (.type "BaseException") == some true) = true then (if ((PySem.W.clsIn K S).isSome && PySem.W.typeIn K (.ref S) == some (.type "type")) = true then PySem.W.subIn K (.ref C) (.ref S) else none) else none) = some true
  rw [if_pos e1, if_pos e2]
  exact h4
theorem r_ost {K : PySem.W.Frag} {σ : L2.St} {H : Hp} {D : Ends} {a C : Addr} {fld : Str} {i j : Nat} {v : V} (hi : σ[i]? = some (some (.ref a))) (hj : σ[j]? = some (some v)) (o : OexC K C) (n : PySem.W.findIn K (.ref C) fld = some none) (h : H a = some (exo a C none))
    (q : ∀ dx, H dx = none → dx ≠ a → D.nx σ (upd (upd H dx (exd dx [(fld, v)])) a (exo a C (some dx)))) : tOst K fld (tVar i) (tVar j) D σ H :=
  ⟨v, hj, .ref a, hi, a, C, rfl, o, n, .inl ⟨h, q⟩⟩
end Fg

set_option Elab.async false
set_option linter.all false
set_option maxRecDepth 100000
set_option maxHeartbeats 4000000
namespace Fg
open PySem PySem.Spec PyProof.Rows L2
/-! ### lcm, int(digits) -/
def rLcm : List V → Hp → VK → Prop := fun vs H Q => ∃ a b : Nat, vs = [.int (a : Int), .int (b : Int)] ∧ a < 2 ^ 13000 ∧ b < 2 ^ 13000 ∧ Q (.int ((Nat.lcm a b : Nat) : Int)) H
theorem log_lt {n k : Nat} (h : n < 2 ^ k) (hk : 0 < k) : n.log2 < k := by
  by_cases h0 : n = 0
  · subst h0; rw [Nat.log2_zero]; exact hk
  · exact (Nat.log2_lt h0).mpr h
theorem cr_lcm {X : Cx} : CallR X (.builtin "math.lcm") rLcm := by
  intro pins s σ H vs us Q I r h
  obtain ⟨a, b, rfl, ha, hb, q⟩ := h
  obtain ⟨t, u, rfl⟩ := Vals.int2 r
  have e1 : Nat.lcm 1 ((a : Int)).natAbs = a := by rw [Int.natAbs_natCast, Nat.lcm_one_left]
  have l1 : a.log2 < 13000 := log_lt ha (by decide)
  have l2 : b.log2 < 13000 := log_lt hb (by decide)
  have hm : ∀ x y : Nat, x.log2 < 13000 → y.log2 < 13000 → ¬ (max x y).log2 / 30 + 1 > 450 := by
    intro x y hx hy
    rcases Nat.le_total x y with z | z
    · rw [Nat.max_eq_right z]; omega
    · rw [Nat.max_eq_left z]; omega
  have hl : (Nat.lcm a b).log2 < bitsLine := by
    have h1 : Nat.lcm a b ≤ a * b := by
      by_cases hz : a * b = 0
      · rcases Nat.mul_eq_zero.mp hz with z | z <;> subst z <;> simp
      · exact Nat.le_of_dvd (Nat.pos_of_ne_zero hz) (Nat.lcm_dvd_mul a b)
    have h2 : a * b < 2 ^ 26000 := by
      have := Nat.mul_lt_mul'' ha hb
      rwa [← Nat.pow_add] at this
    exact Nat.lt_of_lt_of_le (log_lt (Nat.lt_of_le_of_lt h1 h2) (by decide)) (by decide)
  have g := PySem.W.mg_run_lcm (a : Int) t (b : Int) u (by rw [Int.natAbs_natCast]; exact hm 1 a (by decide) l1) (by rw [Int.natAbs_natCast, Int.natAbs_natCast]; exact hm a b l1 l2) (by rw [e1, Int.natAbs_natCast, Int.natAbs_natCast]; exact hl)
  rw [e1, Int.natAbs_natCast] at g
  exact PySem.call_function_meets PySem.W.MGF.kind_lcm PySem.W.MGF.plain_lcm PySem.W.MGF.entry_lcm (PySem.W.MGF.args_lcm _ _) g.meets ⟨.int _, H, I.tok _, ⟨_, rfl⟩, q⟩
def dval (l : List Nat) : Nat := l.foldl (fun a c => 10 * a + (c - 48)) 0
theorem dig3 : ∀ a b c : Fin 10, PySem.intText? (S [48 + a.val, 48 + b.val, 48 + c.val]) = some ((100 * a.val + 10 * b.val + c.val : Nat) : Int) := by decide +kernel
theorem dig2 : ∀ a b : Fin 10, PySem.intText? (S [48 + a.val, 48 + b.val]) = some ((10 * a.val + b.val : Nat) : Int) := by decide +kernel
theorem dig1 : ∀ a : Fin 10, PySem.intText? (S [48 + a.val]) = some ((a.val : Nat) : Int) := by decide +kernel
def isDig (c : Nat) : Bool := decide (48 ≤ c ∧ c ≤ 57)
theorem dig_of {c : Nat} (h : isDig c = true) : ∃ a : Fin 10, c = 48 + a.val := by
  have h := of_decide_eq_true h
  exact ⟨⟨c - 48, by omega⟩, by show c = 48 + (c - 48); omega⟩
theorem int_digits {l : List Nat} (h1 : l ≠ []) (h3 : l.length ≤ 3) (hd : ∀ c ∈ l, isDig c = true) : PySem.intText? (S l) = some ((dval l : Nat) : Int) := by
  match l, h1, h3, hd with
  | [a], _, _, hd =>
    obtain ⟨x, rfl⟩ := dig_of (hd a (by simp))
    rw [dig1 x]
    congr 2
    show x.val = 10 * 0 + (48 + x.val - 48)
    omega
  | [a, b], _, _, hd =>
    obtain ⟨x, rfl⟩ := dig_of (hd a (by simp))
    obtain ⟨y, rfl⟩ := dig_of (hd b (by simp))
    rw [dig2 x y]
    congr 2
    show 10 * x.val + y.val = 10 * (10 * 0 + (48 + x.val - 48)) + (48 + y.val - 48)
    omega
  | [a, b, c], _, _, hd =>
    obtain ⟨x, rfl⟩ := dig_of (hd a (by simp))
    obtain ⟨y, rfl⟩ := dig_of (hd b (by simp))
    obtain ⟨z, rfl⟩ := dig_of (hd c (by simp))
    rw [dig3 x y z]
    congr 2
    show 100 * x.val + 10 * y.val + z.val = 10 * (10 * (10 * 0 + (48 + x.val - 48)) + (48 + y.val - 48)) + (48 + z.val - 48)
    omega
  | _ :: _ :: _ :: _ :: _, _, h3, _ => exact absurd h3 (by simp)
end Fg

set_option Elab.async false
set_option linter.all false
set_option maxRecDepth 100000
set_option maxHeartbeats 4000000
namespace Rt
open Fg
/-! ### rhythm texts as they are read: what is left, beats, row; an error: how much is left there -/
abbrev Got := List Nat × Nat × List Nat
abbrev Res := Except Nat Got
def isSg (c : Nat) : Bool := decide (c = 46 ∨ c = 103 ∨ c = 114 ∨ c = 119)
def kept (b : Nat) (r : List Nat) : List Nat := if b ≤ 24 then r else []
def dsOf (s : List Nat) : List Nat := s.takeWhile isDig
def rsOf (s : List Nat) : List Nat := s.dropWhile isDig
def rep (t : Nat) (r : List Nat) : List Nat := (List.replicate t r).flatten
def grp (inner : Option (List Nat → Res)) (t : Nat) (r : List Nat) : Res := match inner with
  | none => .error (r.length + 1)
  | some f => match f r with
    | .error e => .error e
    | .ok (r2, b, row) => .ok (r2.drop 1, t * b, kept (t * b) (rep t row))
def rdItem (inner : Option (List Nat → Res)) (s : List Nat) : Res :=
  match dsOf s with
  | [] => .ok (s.drop 1, 1, s.take 1)
  | d :: ds =>
    if d = 48 then .error s.length
    else match rsOf s with
      | [] => .error 0
      | c :: r =>
        if isSg c = true then (if 2 ≤ dval ((d :: ds).take 3) ∧ dval ((d :: ds).take 3) ≤ 24 then .ok (r, dval ((d :: ds).take 3), List.replicate (dval ((d :: ds).take 3)) c) else .error s.length)
        else if c = 40 then
          (if 2 ≤ dval ((d :: ds).take 3) ∧ dval ((d :: ds).take 3) ≤ 24 then
            grp inner (dval ((d :: ds).take 3)) r
          else .error s.length)
        else .error (r.length + 1)
def goes (s : List Nat) : Bool := match s with
  | [] => false
  | c :: _ => isSg c || isDig c
def rdItems (item : List Nat → Res) : Nat → List Nat → Nat → List Nat → Res
  | 0, s, b, r => .ok (s, b, r)
  | n + 1, s, b, r => if goes s = true then
      match item s with
      | .error e => .error e
      | .ok (s2, m, g) => rdItems item n s2 (b + m) (kept (b + m) (r ++ g))
    else .ok (s, b, r)
def rdWhole (s : List Nat) (b : Nat) (row : List Nat) : Res := match dsOf s with
  | [] => .error s.length
  | d :: ds => if d = 48 then .error s.length else
    if b ≤ dval ((d :: ds).take 3) ∧ dval ((d :: ds).take 3) ≤ 24 then .ok (rsOf s, dval ((d :: ds).take 3), row ++ List.replicate (dval ((d :: ds).take 3) - b) 46) else .error s.length
def rdPart (item : List Nat → Res) (s : List Nat) : Res := match rdItems item s.length s 0 [] with
  | .error e => .error e
  | .ok (s2, b, r) => if b = 0 then .error s2.length else
    match s2 with
    | [] => .ok (s2, b, r)
    | c :: s3 => if c = 64 then rdWhole s3 b r else .ok (s2, b, r)
def tog (b : Nat) (r : List Nat) (b2 : Nat) (r2 : List Nat) : List Nat :=
  if Nat.lcm b b2 ≤ 24 then (List.range (Nat.lcm b b2)).map fun i => if (r[i % b]?).getD 0 = 46 then (r2[i % b2]?).getD 0 else (r[i % b]?).getD 0 else []
def rdJoin (part : List Nat → Res) : Nat → List Nat → Nat → List Nat → Res
  | 0, s, b, r => .ok (s, b, r)
  | n + 1, s, b, r => match s with
    | [] => .ok (s, b, r)
    | c :: s2 => if c = 38 then
        match part s2 with
        | .error e => .error e
        | .ok (s3, b2, r2) => rdJoin part n s3 (Nat.lcm b b2) (tog b r b2 r2)
      else .ok (s, b, r)
def endOf : Bool → List Nat
  | true => []
  | false => [41]
def rdParts (part : List Nat → Res) (top : Bool) (s : List Nat) : Res := match part s with
  | .error e => .error e
  | .ok (s2, b, r) => match rdJoin part s2.length s2 b r with
    | .error e => .error e
    | .ok (s3, b3, r3) => if s3.take 1 = endOf top then .ok (s3, b3, r3) else .error s3.length
def rdAt : Nat → Bool → List Nat → Res
  | 0, top, s => rdParts (rdPart (rdItem none)) top s
  | n + 1, top, s => rdParts (rdPart (rdItem (some (rdAt n false)))) top s
def innerOf : Nat → Option (List Nat → Res)
  | 0 => none
  | n + 1 => some (rdAt n false)
theorem rdAt_eq (n : Nat) (top : Bool) (s : List Nat) : rdAt n top s = rdParts (rdPart (rdItem (innerOf n))) top s := by cases n <;> rfl

/-! ### what is got: a rest, beats that are not too many, a row of as many signs -/
structure Fine (s : List Nat) (g : Got) : Prop where
  suf : ∃ k, 1 ≤ k ∧ k ≤ s.length ∧ g.1 = s.drop k ∧ g.2.1 ≤ 2 ^ (6 * k)
  pos : 1 ≤ g.2.1
  row : g.2.1 ≤ 24 → g.2.2.length = g.2.1 ∧ ∀ c ∈ g.2.2, isSg c = true
  non : 24 < g.2.1 → g.2.2 = []
def Ok (f : List Nat → Res) (when : List Nat → Prop) : Prop := ∀ s g, when s → f s = .ok g → Fine s g
theorem two_add {a b : Nat} (ha : 2 ≤ a) (hb : 2 ≤ b) : a + b ≤ a * b := by
  obtain ⟨x, rfl⟩ : ∃ x, a = x + 2 := ⟨a - 2, by omega⟩
  obtain ⟨y, rfl⟩ : ∃ y, b = y + 2 := ⟨b - 2, by omega⟩
  have : (x + 2) * (y + 2) = x * y + 2 * x + 2 * y + 4 := by
    rw [Nat.add_mul, Nat.mul_add, Nat.mul_add]; omega
  omega
theorem pow_split {a b : Nat} : 2 ^ (6 * (a + b)) = 2 ^ (6 * a) * 2 ^ (6 * b) := by rw [Nat.mul_add, Nat.pow_add]
theorem pow_two {k : Nat} (h : 1 ≤ k) : 64 ≤ 2 ^ (6 * k) := by
  obtain ⟨x, rfl⟩ : ∃ x, k = 1 + x := ⟨k - 1, by omega⟩
  rw [pow_split]
  have : 1 ≤ 2 ^ (6 * x) := Nat.one_le_two_pow
  calc 64 = 2 ^ (6 * 1) * 1 := by decide
    _ ≤ _ := Nat.mul_le_mul_left _ this
theorem ds_rs (s : List Nat) : dsOf s ++ rsOf s = s := List.takeWhile_append_dropWhile
theorem rs_drop (s : List Nat) : rsOf s = s.drop (dsOf s).length := by
  have h := ds_rs s
  conv => rhs; rw [← h]
  rw [h]
  have : s = dsOf s ++ rsOf s := h.symm
  conv => rhs; arg 2; rw [this]
  rw [List.drop_left]
theorem tw_mem {p : Nat → Bool} : ∀ (s : List Nat) (c : Nat), c ∈ s.takeWhile p → p c = true
  | [], c, h => by cases h
  | x :: r, c, h => by
    rw [List.takeWhile_cons] at h
    split at h
    · rcases List.mem_cons.mp h with rfl | h
      · assumption
      · exact tw_mem r c h
    · cases h
theorem ds_dig (s : List Nat) : ∀ c ∈ dsOf s, isDig c = true := fun c h => tw_mem s c h
theorem len_rs (s : List Nat) : (dsOf s).length + (rsOf s).length = s.length := by
  rw [← List.length_append, ds_rs]
theorem rep_len (t : Nat) (r : List Nat) : (rep t r).length = t * r.length := by
  unfold rep
  induction t with
  | zero => simp
  | succ t ih => rw [List.replicate_succ, List.flatten_cons, List.length_append, ih, Nat.succ_mul]; omega
theorem rep_mem {t : Nat} {r : List Nat} {c : Nat} (h : c ∈ rep t r) : c ∈ r := by
  obtain ⟨l, h1, h2⟩ := List.mem_flatten.mp h
  rw [List.eq_of_mem_replicate h1] at h2
  exact h2
theorem ok_item {inner : Option (List Nat → Res)} (hi : ∀ f, inner = some f → ∀ s g, f s = .ok g → Fine s g ∧ g.1 ≠ []) : Ok (rdItem inner) (fun s => goes s = true) := by
  intro s g hg h
  unfold rdItem at h
  have hl := len_rs s
  have hd := rs_drop s
  split at h
  · rename_i hds
    cases h
    cases s with
    | nil => cases hg
    | cons c r =>
      refine ⟨⟨1, Nat.le_refl _, by simp, rfl, by show (1 : Nat) ≤ 2 ^ (6 * 1); decide⟩, Nat.le_refl _, fun _ => ⟨rfl, fun x hx => ?_⟩, fun z => absurd z (by show ¬ 24 < 1; decide)⟩
      have hx2 : x = c := by simpa using hx
      subst hx2
      have g2 : (isSg x || isDig x) = true := hg
      rcases Bool.or_eq_true_iff.mp g2 with z | z
      · exact z
      · unfold dsOf at hds
        rw [List.takeWhile_cons, z] at hds
        cases hds
  · rename_i d ds hds
    rw [hds] at hl hd
    rw [List.length_cons] at hl
    split at h
    · cases h
    · split at h
      · cases h
      · rename_i c r hrs
        rw [hrs] at hl hd
        rw [List.length_cons] at hl hd
        generalize dval ((d :: ds).take 3) = t at h
        have hr : r = s.drop (ds.length + 2) := by
          have e : (c :: r).drop 1 = (s.drop (ds.length + 1)).drop 1 := by rw [hd]
          rw [List.drop_drop] at e
          simpa using e
        split at h
        · rename_i hsg
          split at h
          · rename_i ht
            cases h
            refine ⟨⟨ds.length + 2, by omega, by omega, hr, ?_⟩, by show 1 ≤ t; omega, fun _ => ⟨List.length_replicate, fun x hx => by rw [List.eq_of_mem_replicate hx]; exact hsg⟩, fun z => absurd z (by show ¬ 24 < t; omega)⟩
            have := pow_two (k := ds.length + 2) (by omega)
            show t ≤ _
            omega
          · cases h
        · split at h
          · split at h
            · rename_i ht
              unfold grp at h
              split at h
              · cases h
              · rename_i f
                split at h
                · cases h
                · rename_i r2 b row hf
                  cases h
                  obtain ⟨F, ne⟩ := hi f rfl _ _ hf
                  obtain ⟨k, k1, k2, k3, k4⟩ := F.suf
                  have k3' : r2 = r.drop k := k3
                  have k4' : b ≤ 2 ^ (6 * k) := k4
                  have p1 : 1 ≤ b := F.pos
                  have kl : k < r.length := by
                    rcases Nat.lt_or_ge k r.length with z | z
                    · exact z
                    · exact absurd (by show r2 = []; rw [k3', List.drop_eq_nil_of_le z]) ne
                  refine ⟨⟨ds.length + 2 + (k + 1), by omega, by omega, ?_, ?_⟩, ?_, ?_, ?_⟩
                  · show r2.drop 1 = _
                    rw [k3', hr, List.drop_drop, List.drop_drop, Nat.add_assoc]
                  · show t * b ≤ _
                    rw [show ds.length + 2 + (k + 1) = (ds.length + 3) + k by omega, pow_split]
                    refine Nat.mul_le_mul ?_ k4'
                    have := pow_two (k := ds.length + 3) (by omega)
                    omega
                  · show 1 ≤ t * b
                    exact Nat.mul_pos (by omega) p1
                  · intro hz
                    have hz' : t * b ≤ 24 := hz
                    have hb : b ≤ 24 := Nat.le_trans (Nat.le_mul_of_pos_left b (by omega)) hz'
                    obtain ⟨e1, e2⟩ := F.row hb
                    show (kept (t * b) (rep t row)).length = t * b ∧ _
                    unfold kept
                    rw [if_pos hz']
                    exact ⟨by rw [rep_len]; show t * row.length = _; rw [show row.length = b from e1], fun x hx => e2 x (rep_mem hx)⟩
                  · intro hz
                    have hz' : ¬ t * b ≤ 24 := Nat.not_le.mpr hz
                    show kept (t * b) (rep t row) = []
                    unfold kept
                    rw [if_neg hz']
            · cases h
          · cases h
/-- so far in a part: k signs gone, b beats -/
structure Far (s0 : List Nat) (s : List Nat) (b : Nat) (r : List Nat) : Prop where
  suf : ∃ k, k ≤ s0.length ∧ s = s0.drop k ∧ (k = 0 → b = 0) ∧ b ≤ 2 ^ (6 * k) ∧ (1 ≤ k → 1 ≤ b)
  row : b ≤ 24 → r.length = b ∧ ∀ c ∈ r, isSg c = true
  non : 24 < b → r = []
theorem far_step {s0 s s2 : List Nat} {b m : Nat} {r g : List Nat} (F : Far s0 s b r) (G : Fine s (s2, m, g)) : Far s0 s2 (b + m) (kept (b + m) (r ++ g)) ∧ s2.length < s.length := by
  obtain ⟨k, k1, k2, k3, k4, k5⟩ := F.suf
  obtain ⟨j, j1, j2, j3, j4⟩ := G.suf
  have j3' : s2 = s.drop j := j3
  have j4' : m ≤ 2 ^ (6 * j) := j4
  have p1 : 1 ≤ m := G.pos
  have sl : s.length = s0.length - k := by rw [k2, List.length_drop]
  refine ⟨⟨⟨k + j, by omega, by rw [j3', k2, List.drop_drop], fun z => by omega, ?_, fun _ => by omega⟩, ?_, ?_⟩, ?_⟩
  · rw [pow_split]
    rcases Nat.eq_zero_or_pos k with z | z
    · subst z
      rw [k3 rfl, Nat.zero_add]
      show m ≤ 1 * _
      omega
    · have h1 := pow_two z
      have h2 := pow_two j1
      have h3 := two_add (a := 2 ^ (6 * k)) (b := 2 ^ (6 * j)) (by omega) (by omega)
      omega
  · intro h
    obtain ⟨e1, e2⟩ := F.row (by omega)
    obtain ⟨e3, e4⟩ := G.row (by show m ≤ 24; omega)
    unfold kept
    rw [if_pos h]
    refine ⟨by rw [List.length_append, e1]; show b + g.length = _; rw [show g.length = m from e3], fun c hc => ?_⟩
    rcases List.mem_append.mp hc with hc | hc
    · exact e2 c hc
    · exact e4 c hc
  · intro h
    unfold kept
    rw [if_neg (by omega)]
  · rw [j3', List.length_drop]
    omega
theorem far_items {item : List Nat → Res} (hi : Ok item (fun s => goes s = true)) {s0 : List Nat} : ∀ (n : Nat) (s : List Nat) (b : Nat) (r : List Nat) (g : Got), Far s0 s b r → rdItems item n s b r = .ok g → Far s0 g.1 g.2.1 g.2.2
  | 0, s, b, r, g, F, h => by
    cases h
    exact F
  | n + 1, s, b, r, g, F, h => by
    unfold rdItems at h
    split at h
    · rename_i hg
      split at h
      · cases h
      · rename_i s2 m x hx
        exact far_items hi n _ _ _ g (far_step F (hi s _ hg hx)).1 h
    · cases h
      exact F
theorem far_start (s : List Nat) : Far s s 0 [] := ⟨⟨0, Nat.zero_le _, rfl, fun _ => rfl, Nat.zero_le _, fun z => absurd z (by decide)⟩, fun _ => ⟨rfl, fun c h => nomatch h⟩, fun z => absurd z (by decide)⟩
theorem far_fine {s0 s : List Nat} {b : Nat} {r : List Nat} (F : Far s0 s b r) (hb : b ≠ 0) : Fine s0 (s, b, r) := by
  obtain ⟨k, k1, k2, k3, k4, k5⟩ := F.suf
  have hk : 1 ≤ k := Nat.pos_of_ne_zero fun z => hb (k3 z)
  exact ⟨⟨k, hk, k1, k2, k4⟩, Nat.pos_of_ne_zero hb, F.row, F.non⟩
theorem ok_part {item : List Nat → Res} (hi : Ok item (fun s => goes s = true)) : Ok (rdPart item) (fun _ => True) := by
  intro s g _ h
  unfold rdPart at h
  split at h
  · cases h
  · rename_i s2 b r hr
    have F := far_items hi _ _ _ _ _ (far_start s) hr
    split at h
    · cases h
    · rename_i hb
      have G := far_fine F hb
      split at h
      · cases h
        exact G
      · rename_i c s3
        split at h
        · unfold rdWhole at h
          split at h
          · cases h
          · rename_i d ds hds
            split at h
            · cases h
            · split at h
              · rename_i hw
                cases h
                obtain ⟨k, k1, k2, k3, k4⟩ := G.suf
                have k3' : c :: s3 = s.drop k := k3
                have hl := len_rs s3
                have hd := rs_drop s3
                rw [hds] at hl hd
                rw [List.length_cons] at hl hd
                generalize dval ((d :: ds).take 3) = t at hw
                have sl : s3.length + 1 = s.length - k := by rw [← List.length_cons (a := c), k3', List.length_drop]
                have e3 : s3 = s.drop (k + 1) := by
                  have e : (c :: s3).drop 1 = (s.drop k).drop 1 := by rw [k3']
                  rw [List.drop_drop] at e
                  simpa using e
                have p1 : 1 ≤ b := G.pos
                refine ⟨⟨k + 1 + (ds.length + 1), by omega, by omega, ?_, ?_⟩, ?_, ?_, ?_⟩
                · show rsOf s3 = _
                  rw [hd, e3, List.drop_drop]
                · show t ≤ _
                  have := pow_two (k := k + 1 + (ds.length + 1)) (by omega)
                  omega
                · show 1 ≤ t
                  omega
                · intro _
                  obtain ⟨e1, e2⟩ := G.row (by show b ≤ 24; omega)
                  refine ⟨?_, fun x hx => ?_⟩
                  · show (r ++ List.replicate (t - b) 46).length = t
                    rw [List.length_append, show r.length = b from e1, List.length_replicate]
                    omega
                  · rcases List.mem_append.mp hx with hx | hx
                    · exact e2 x hx
                    · rw [List.eq_of_mem_replicate hx]
                      rfl
                · intro z
                  exact absurd z (by show ¬ 24 < t; omega)
              · cases h
        · cases h
          exact G
theorem getD_mem {r : List Nat} {i : Nat} (h : i < r.length) : (r[i]?).getD 0 ∈ r := by
  rw [List.getElem?_eq_getElem h]
  exact List.getElem_mem _
theorem lcm_le {a b : Nat} (ha : 1 ≤ a) (hb : 1 ≤ b) : a ≤ Nat.lcm a b ∧ b ≤ Nat.lcm a b ∧ 1 ≤ Nat.lcm a b ∧ Nat.lcm a b ≤ a * b := by
  have p : 0 < Nat.lcm a b := Nat.lcm_pos ha hb
  exact ⟨Nat.le_of_dvd p (Nat.dvd_lcm_left a b), Nat.le_of_dvd p (Nat.dvd_lcm_right a b), p, Nat.le_of_dvd (Nat.mul_pos ha hb) (Nat.lcm_dvd_mul a b)⟩
theorem fine_join {s0 s2 s3 : List Nat} {c b b2 : Nat} {r r2 : List Nat} (F : Fine s0 (c :: s2, b, r)) (G : Fine s2 (s3, b2, r2)) : Fine s0 (s3, Nat.lcm b b2, tog b r b2 r2) := by
  obtain ⟨k, k1, k2, k3, k4⟩ := F.suf
  obtain ⟨j, j1, j2, j3, j4⟩ := G.suf
  have k3' : c :: s2 = s0.drop k := k3
  have j3' : s3 = s2.drop j := j3
  have k4' : b ≤ 2 ^ (6 * k) := k4
  have j4' : b2 ≤ 2 ^ (6 * j) := j4
  have p1 : 1 ≤ b := F.pos
  have p2 : 1 ≤ b2 := G.pos
  obtain ⟨l1, l2, l3, l4⟩ := lcm_le p1 p2
  have e3 : s2 = s0.drop (k + 1) := by
    have e : (c :: s2).drop 1 = (s0.drop k).drop 1 := by rw [k3']
    rw [List.drop_drop] at e
    simpa using e
  have sl : s2.length + 1 = s0.length - k := by rw [← List.length_cons (a := c), k3', List.length_drop]
  refine ⟨⟨k + 1 + j, by omega, by omega, by show s3 = _; rw [j3', e3, List.drop_drop], ?_⟩, l3, ?_, ?_⟩
  · show Nat.lcm b b2 ≤ _
    rw [pow_split]
    refine Nat.le_trans l4 (Nat.mul_le_mul ?_ j4')
    refine Nat.le_trans k4' ?_
    exact Nat.pow_le_pow_right (by decide) (by omega)
  · intro h
    have h' : Nat.lcm b b2 ≤ 24 := h
    obtain ⟨e1, e2⟩ := F.row (by show b ≤ 24; omega)
    obtain ⟨e4, e5⟩ := G.row (by show b2 ≤ 24; omega)
    have e1' : r.length = b := e1
    have e4' : r2.length = b2 := e4
    show (tog b r b2 r2).length = Nat.lcm b b2 ∧ _
    unfold tog
    rw [if_pos h']
    refine ⟨by rw [List.length_map, List.length_range], fun x hx => ?_⟩
    have hx' : x ∈ (List.range (Nat.lcm b b2)).map fun i => if (r[i % b]?).getD 0 = 46 then (r2[i % b2]?).getD 0 else (r[i % b]?).getD 0 := hx
    obtain ⟨i, _, rfl⟩ := List.mem_map.mp hx'
    split
    · exact e5 _ (getD_mem (by rw [e4']; exact Nat.mod_lt _ p2))
    · exact e2 _ (getD_mem (by rw [e1']; exact Nat.mod_lt _ p1))
  · intro h
    have h' : ¬ Nat.lcm b b2 ≤ 24 := Nat.not_le.mpr h
    show tog b r b2 r2 = []
    unfold tog
    rw [if_neg h']
theorem ok_join {part : List Nat → Res} (hp : Ok part (fun _ => True)) {s0 : List Nat} : ∀ (n : Nat) (s : List Nat) (b : Nat) (r : List Nat) (g : Got), Fine s0 (s, b, r) → rdJoin part n s b r = .ok g → Fine s0 g
  | 0, s, b, r, g, F, h => by
    cases h
    exact F
  | n + 1, s, b, r, g, F, h => by
    unfold rdJoin at h
    split at h
    · cases h
      exact F
    · rename_i c s2
      split at h
      · split at h
        · cases h
        · rename_i s3 b2 r2 hx
          exact ok_join hp n _ _ _ g (fine_join F (hp s2 _ trivial hx)) h
      · cases h
        exact F
theorem ok_parts {part : List Nat → Res} (hp : Ok part (fun _ => True)) {top : Bool} {s : List Nat} {g : Got} (h : rdParts part top s = .ok g) : Fine s g ∧ (top = false → g.1 ≠ []) := by
  unfold rdParts at h
  split at h
  · cases h
  · rename_i s2 b r hx
    split at h
    · cases h
    · rename_i s3 b3 r3 hj
      split at h
      · rename_i ht
        cases h
        refine ⟨ok_join hp _ _ _ _ _ (hp s _ trivial hx) hj, fun z e => ?_⟩
        subst z
        have e' : s3 = [] := e
        rw [e'] at ht
        cases ht
      · cases h
theorem ok_at : ∀ (n : Nat) (top : Bool) (s : List Nat) (g : Got), rdAt n top s = .ok g → Fine s g ∧ (top = false → g.1 ≠ [])
  | 0, top, s, g, h => ok_parts (ok_part (ok_item (inner := none) fun f z => by cases z)) h
  | n + 1, top, s, g, h => ok_parts (ok_part (ok_item (inner := some (rdAt n false)) fun f z s g hf => by
      cases z
      obtain ⟨h1, h2⟩ := ok_at n false s g hf
      exact ⟨h1, h2 rfl⟩)) h
theorem inner_ok (n : Nat) : ∀ f, innerOf n = some f → ∀ s g, f s = .ok g → Fine s g ∧ g.1 ≠ [] := by
  intro f z s g hf
  cases n with
  | zero => cases z
  | succ n =>
    cases z
    obtain ⟨h1, h2⟩ := ok_at n false s g hf
    exact ⟨h1, h2 rfl⟩
end Rt

set_option Elab.async false
namespace Fk
open PySem
def topS (i : Nat) : Stmt := PySem.Challenge.pw_falseglim_k05_bad_rhythm_texts.main.body.getD i (.Pass ⟨0, 0, 0, 0⟩)
end Fk

set_option Elab.async false
set_option linter.all false
set_option maxRecDepth 100000
set_option maxHeartbeats 4000000
namespace Fk
open PySem PySem.Spec PyProof.Rows L2 Fg Rt
local macro_rules | `(tactic| walk_at "rd1") => `(tactic| first
  | with_reducible refine r_seq ?_
  | with_reducible refine r_asg ?_
  | with_reducible refine r_gname ?_
  | with_reducible refine r_gsub ?_
  | with_reducible refine r_ret ?_
  | with_reducible refine r_retN ?_
  | with_reducible refine r_next ?_
  | with_reducible refine r_drop ?_
  | with_reducible refine r_ifS ?_
  | with_reducible refine r_if ?_
  | with_reducible refine r_par ?_
  | with_reducible refine r_pair ?_
  | with_reducible refine r_test ?_
  | with_reducible refine r_tB ?_
  | with_reducible refine r_not ?_
  | with_reducible refine r_and ?_
  | with_reducible refine r_or ?_
  | with_reducible refine r_andV ?_
  | with_reducible refine r_orV ?_
  | with_reducible refine r_notV ?_
  | with_reducible refine r_nil ?_
  | with_reducible refine r_cons ?_
  | with_reducible refine r_call ?_
  | with_reducible refine r_callS ?_
  | with_reducible refine r_cb ?_
  | with_reducible refine r_then ?_
  | with_reducible refine r_tup ?_
  | with_reducible refine r_lst ?_
  | with_reducible refine r_sl ?_
  | with_reducible refine r_nopart ?_
  | with_reducible refine r_part ?_
  | with_reducible refine r_lcR1 ?_
  | with_reducible refine r_lcR2 ?_
  | with_reducible refine r_lcL ?_
  | with_reducible refine r_lcT ?_
  | with_reducible refine r_forR1 ?_
  | with_reducible refine r_forR2 ?_
  | with_reducible refine r_forL ?_
  | with_reducible refine r_forT ?_
  | with_reducible refine r_forE ?_
  | with_reducible refine r_strE ?_
  | ((with_reducible refine r_rng1 ?hc ?_); (case hc => omega))
  | ((with_reducible refine r_rng2 ?hc ?_); (case hc => omega))
  | ((with_reducible refine' r_refL ?hc ?_); (case hc => first | assumption | exact Evl.sq_of (by assumption)))
  | ((with_reducible refine' r_refT ?hc ?_); (case hc => first | assumption | exact Evl.st_of (by assumption)))
  | with_reducible refine r_op ?_
  | with_reducible refine r_un ?_
  | with_reducible refine r_chain ?_
  | ((with_reducible refine' r_var ?hv ?_); (case hv => exact rfl))
  | with_reducible refine r_cS ?_
  | with_reducible refine r_cs ?_
  | with_reducible refine r_c ?_
  | with_reducible refine r_yes ?_
  | with_reducible refine r_bm ?_
  | with_reducible refine r_bl ?_
  | with_reducible refine r_in ?_
  | with_reducible refine r_ty ?_
  | with_reducible refine r_I0 ?_
  | ((with_reducible refine r_I ?hc ?_); (case hc => first | assumption | (show (0 : Int) < _; decide) | exact Or.inr ⟨by decide, by decide⟩ | exact Or.inr ⟨by omega, by omega⟩ | exact Or.inl ⟨by decide, by decide⟩ | exact (show CDivW _ _ from ⟨by decide, by decide +kernel⟩) | exact (show CPowW _ _ from ⟨by decide, by decide +kernel⟩) | (show (0 : Int) < _; omega)))
  | with_reducible refine r_U ?_
  | with_reducible refine r_eqI ?_
  | with_reducible refine r_neI ?_
  | with_reducible refine r_eqS ?_
  | with_reducible refine r_neS ?_
  | with_reducible refine r_eqB ?_
  | with_reducible refine r_neB ?_
  | with_reducible refine r_niS ?_
  | with_reducible refine r_inSS ?_
  | ((with_reducible refine r_slSS ?hc ?_); (case hc => first | exact small (by omega) | exact small (by simp; omega)))
  | ((with_reducible refine r_lenS ?hc ?_); (case hc => first | exact small (by omega) | exact small (by simp; omega)))
  | ((with_reducible refine' r_lenL ?hc ?_); (case hc => first | assumption | exact Evl.sq_of (by assumption)))
  | ((with_reducible refine' r_lenT ?hc ?_); (case hc => first | assumption | exact Evl.st_of (by assumption)))
  | ((with_reducible refine' r_ixL ?h1 ?h2 ?h3 ?_); (case h1 => first | assumption | exact Evl.sq_of (by assumption) | exact Evl.sq_of upd_same); (case h2 => first | decide | omega); (case h3 => first | exact rfl | assumption))
  | ((with_reducible refine' r_ixT ?h1 ?h2 ?h3 ?_); (case h1 => first | assumption | exact Evl.st_of (by assumption)); (case h2 => first | decide | omega); (case h3 => first | exact rfl | assumption))
  | with_reducible refine r_T ?_
  | with_reducible refine r_notNn ?_
  | with_reducible refine r_notN_int ?_
  | with_reducible refine r_notN_str ?_
  | with_reducible refine r_notN_ref ?_
  | with_reducible refine r_isNn ?_
  | with_reducible refine r_isN_int ?_
  | with_reducible refine r_isN_str ?_
  | with_reducible refine r_isN_ref ?_
  | ((with_reducible refine' r_isi ?ht ?hk ?_); (case ht => first | exact .base (.int _) | exact .base (.bl _) | exact .base (.str _) | exact .base .non | exact .base (.lst (by assumption)) | exact .base (.tup (by assumption))); (case hk => first | exact kb_int_int | exact kb_int_bool | exact kb_int_str | exact kb_int_list | exact kb_int_tuple | exact kb_bool_int | exact kb_bool_bool | exact kb_bool_str | exact kb_bool_list | exact kb_bool_tuple | exact kb_str_int | exact kb_str_bool | exact kb_str_str | exact kb_str_list | exact kb_str_tuple | exact kb_NoneType_int | exact kb_NoneType_bool | exact kb_NoneType_str | exact kb_NoneType_list | exact kb_NoneType_tuple | exact kb_list_int | exact kb_list_bool | exact kb_list_str | exact kb_list_list | exact kb_list_tuple | exact kb_tuple_int | exact kb_tuple_bool | exact kb_tuple_str | exact kb_tuple_list | exact kb_tuple_tuple))
  | with_reducible refine r_F ?_
  | with_reducible refine r_nT ?_
  | with_reducible refine r_nF ?_
  | with_reducible refine r_mko ?_
  | with_reducible refine r_xf ?_
  | ((with_reducible refine' r_sum ?hc ?_); (case hc => first | assumption | exact Evl.sq_of (by assumption)))
  | ((with_reducible refine' r_setL ?h1 ?h2 ?h3 ?_); (case h1 => first | assumption | exact upd_same); (case h2 => first | decide | omega); (case h3 => first | (show _ < _; decide) | (simp; done)))
  | with_reducible refine r_int ?_
  | with_reducible refine r_abs ?_)
local macro_rules | `(tactic| walk_at "rd") => `(tactic| repeat (walk_at "rd1"))

section
variable {P : Program} {w : World} {K : PySem.W.Frag} {mg : Str → Option Value} {base : Heap}
abbrev SGL : List Nat := [46, 103, 114, 119]
abbrev DGL : List Nat := [48, 49, 50, 51, 52, 53, 54, 55, 56, 57]
theorem sgl (c : Nat) : decide (c ∈ SGL) = isSg c := by unfold SGL isSg; simp
theorem dgl (c : Nat) : decide (c ∈ DGL) = isDig c := by
  unfold DGL isDig
  apply decide_eq_decide.mpr
  simp only [List.mem_cons, List.not_mem_nil, or_false]
  omega
theorem cut_mid {l : List Nat} {i j : Int} (h : 0 ≤ i) (h2 : i ≤ j) : cutL l (some i) (some j) = (l.drop i.toNat).take (j.toNat - i.toNat) := by
  unfold cutL
  rw [sIx_pos h, sIx_pos (by omega)]
  by_cases hi : i.toNat ≤ l.length
  · rw [Nat.min_eq_left hi]
    by_cases hj : j.toNat ≤ l.length
    · rw [Nat.min_eq_left hj]
    · rw [Nat.min_eq_right (by omega), List.take_of_length_le (by rw [List.length_drop]; omega), List.take_of_length_le (by rw [List.length_drop]; omega)]
  · rw [List.drop_eq_nil_of_le (by omega : l.length ≤ min i.toNat l.length), List.drop_eq_nil_of_le (by omega : l.length ≤ i.toNat)]
    simp
theorem take1 {l : List Nat} {i : Nat} : (l.drop i).take 1 = match l[i]? with
  | none => []
  | some c => [c] := by
  rw [← List.head?_drop]
  cases l.drop i <;> rfl
def spIsSign : Sp := fun vs H Q _ => ∃ l : List Nat, vs = [.str (S l)] ∧ l.length ≤ 1 ∧ Q (.bl (match l with
  | [] => false
  | c :: _ => isSg c)) H
abbrev s_is_sign : Stmt := topS 10
abbrev N_is_sign : List Str := ["thing"]
theorem sc_is_sign : FnScope ["thing"] ["thing"] (defScope s_is_sign) := ⟨rfl, rfl, rfl, by decide +kernel, rfl, by decide +kernel, by decide +kernel⟩
theorem can_is_sign (T : Bi mg) (F : Defd K mg "is_sign" s_is_sign ["thing"]) (c_SIGNS : ∃ u, mg "SIGNS" = some u ∧ RelV (.str (S SGL)) u) : Can P w K mg base L2.CX0 1 "is_sign" ["thing"] spIsSign := by
  refine can0 F sc_is_sign (fun vs H Q E h => ?_) (fun f cdv A outer s H vs Q E hr h => ⟨_, (pss_one (ps_ret (pe_and (pe_callB call_isi (by rfl) T.b_isinstance boot_isinstance (pa_cons (pv 0) (pa_cons (pe_bltn (v := .ty "str") (by rfl) T.b_str boot_str rfl) pa_nil))) (pe_and (pe_cmpR op_eq (pe_callB call_lenS (by rfl) T.b_len boot_len (pa_cons (pv 0) pa_nil)) pe_int (nomark _)) (pe_one (pe_cmpR op_inSS (pv 0) (C8.pe_gc rfl c_SIGNS) (by rfl))))))), ?_⟩)
  · obtain ⟨_, rfl, _⟩ := h
    rfl
  · obtain ⟨l, rfl, hl, q⟩ := h
    walk_at "rd"
    match l, hl with
    | [], _ =>
      walk_at "rd"
      refine r_ite (fun z => absurd z (by decide)) (fun _ => ?_)
      exact q
    | [c], _ =>
      walk_at "rd"
      refine r_ite (fun _ => ?_) (fun z => absurd rfl z)
      walk_at "rd"
      rw [sgl c]
      exact q
    | _ :: _ :: _, hl => exact absurd hl (by simp)
def spKept : Sp := fun vs H Q _ => ∃ (b : Nat) (r : List Nat), vs = [.int (b : Int), .str (S r)] ∧ Q (.str (S (kept b r))) H
abbrev s_kept : Stmt := topS 16
abbrev N_kept : List Str := ["beats", "row"]
theorem sc_kept : FnScope ["beats", "row"] ["beats", "row"] (defScope s_kept) := ⟨rfl, rfl, rfl, by decide +kernel, rfl, by decide +kernel, by decide +kernel⟩
theorem can_kept (T : Bi mg) (F : Defd K mg "kept" s_kept ["beats", "row"]) (c_MOST_BEATS : ∃ u, mg "MOST_BEATS" = some u ∧ RelV (.int 24) u) : Can P w K mg base L2.CX0 1 "kept" ["beats", "row"] spKept := by
  refine can0 F sc_kept (fun vs H Q E h => ?_) (fun f cdv A outer s H vs Q E hr h => ⟨_, (pss_one (ps_ret (pe_ifExp (pt_cmpR op_le (pv 0) (C8.pe_gc rfl c_MOST_BEATS) (nomark _)) (pv 1) (pe_strL [] (by decide +kernel))))), ?_⟩)
  · obtain ⟨_, _, rfl, _⟩ := h
    rfl
  · obtain ⟨b, r, rfl, q⟩ := h
    walk_at "rd"
    refine r_ite (fun h => ?_) (fun h => ?_)
    · walk_at "rd"
      unfold kept at q
      rw [if_pos (by omega)] at q
      exact q
    · walk_at "rd"
      unfold kept at q
      rw [if_neg (by omega)] at q
      exact q
def spChar : Sp := fun vs H Q _ => ∃ (l : List Nat) (i : Nat), vs = [.str (S l), .int (i : Int)] ∧ l.length ≤ 100000 ∧ Q (.str (S ((l.drop i).take 1))) H
abbrev s_char_at : Stmt := topS 18
abbrev N_char_at : List Str := ["text", "at"]
theorem sc_char_at : FnScope ["text", "at"] ["text", "at"] (defScope s_char_at) := ⟨rfl, rfl, rfl, by decide +kernel, rfl, by decide +kernel, by decide +kernel⟩
theorem can_char_at (T : Bi mg) (F : Defd K mg "char_at" s_char_at ["text", "at"]) : Can P w K mg base L2.CX0 1 "char_at" ["text", "at"] spChar := by
  refine can0 F sc_char_at (fun vs H Q E h => ?_) (fun f cdv A outer s H vs Q E hr h => ⟨_, (pss_one (ps_ret (pe_slice sl_strS (pv 0) (po_some (pv 1)) (po_some (pe_op op_add (pv 1) pe_int))))), ?_⟩)
  · obtain ⟨_, _, rfl, _⟩ := h
    rfl
  · obtain ⟨l, i, rfl, hl, q⟩ := h
    walk_at "rd"
    rw [cut_mid (by omega) (by omega), show ((i : Int) + 1).toNat - (i : Int).toNat = 1 by omega, Int.toNat_natCast]
    exact q
def spEnd : Sp := fun vs H Q _ => ∃ (l : List Nat) (i : Nat), vs = [.str (S l), .int (i : Int)] ∧ l.length ≤ 100000 ∧ Q (.int ((i + (dsOf (l.drop i)).length : Nat) : Int)) H
theorem tw_get {p : Nat → Bool} : ∀ (s : List Nat) (k : Nat), k < (s.takeWhile p).length → ∃ c, s[k]? = some c ∧ p c = true
  | [], k, h => absurd h (by simp)
  | x :: r, k, h => by
    rw [List.takeWhile_cons] at h
    split at h
    · rename_i hx
      cases k with
      | zero => exact ⟨x, rfl, hx⟩
      | succ k => exact tw_get r k (by simpa using h)
    · exact absurd h (by simp)
theorem tw_end {p : Nat → Bool} : ∀ (s : List Nat) (c : Nat), s[(s.takeWhile p).length]? = some c → p c = false
  | [], c, h => by simp at h
  | x :: r, c, h => by
    rw [List.takeWhile_cons] at h
    split at h
    · exact tw_end r c (by simpa using h)
    · rename_i hx
      have e : x = c := by simpa using h
      subst e
      simpa using hx
abbrev s_end_of_run : Stmt := topS 19
abbrev N_end_of_run : List Str := ["text", "at", "end"]
theorem sc_end_of_run : FnScope ["text", "at", "end"] ["text", "at"] (defScope s_end_of_run) := ⟨rfl, rfl, rfl, by decide +kernel, rfl, by decide +kernel, by decide +kernel⟩
theorem can_end_of_run (T : Bi mg) (F : Defd K mg "end_of_run" s_end_of_run ["text", "at"]) (c_DIGITS : ∃ u, mg "DIGITS" = some u ∧ RelV (.str (S DGL)) u) : Can P w K mg base L2.CX0 1 "end_of_run" ["text", "at"] spEnd := by
  refine can0 F sc_end_of_run (fun vs H Q E h => ?_) (fun f cdv A outer s H vs Q E hr h => ⟨_, (pss_cons (ps_set (i := 2) sc_end_of_run.nd rfl (by first | exact Or.inl rfl | exact Or.inr rfl) (pv 1))
  (pss_cons (ps_while PassesOwn.never (PW.pt (pw_and (pt_cmpR op_lt (pv 2) (pe_callB call_lenS (by rfl) T.b_len boot_len (pa_cons (pv 0) pa_nil)) (nomark _)) (pw_and1 (pt_cmpR op_inSS (pe_ix ix_strS (pv 0) (pv 2) (fun _ _ => rfl)) (C8.pe_gc rfl c_DIGITS) (by rfl))))) (pss_one (ps_set (i := 2) sc_end_of_run.nd rfl (by first | exact Or.inl rfl | exact Or.inr rfl) (pe_op op_add (pv 2) pe_int))))
  (pss_one (ps_ret (pv 2))))), ?_⟩)
  · obtain ⟨_, _, rfl, _⟩ := h
    rfl
  · obtain ⟨l, i, rfl, hl, q⟩ := h
    have dl : (dsOf (l.drop i)).length + i ≤ l.length + i := by
      have := len_rs (l.drop i)
      rw [List.length_drop] at this
      omega
    have dl2 : i ≤ l.length → (dsOf (l.drop i)).length + i ≤ l.length := by
      have := len_rs (l.drop i)
      rw [List.length_drop] at this
      omega
    walk_at "rd"
    refine ⟨fun m σ' H' => ∃ k : Nat, σ' = [some (.str (S l)), some (.int (i : Int)), some (.int ((i + k : Nat) : Int))] ∧ H' = H ∧ m + k = (dsOf (l.drop i)).length, ⟨(dsOf (l.drop i)).length, 0, rfl, rfl, by omega⟩, fun m σ' H' hW => ?_⟩
    obtain ⟨k, rfl, rfl, hm⟩ := hW
    walk_at "rd"
    refine r_ite (fun h => ?_) (fun h => ?_)
    · have hik : i + k < l.length := by omega
      have g : l[((i + k : Nat) : Int).toNat]? = some l[i + k] := by rw [Int.toNat_natCast]; exact List.getElem?_eq_getElem hik
      walk_at "rd"
      refine r_ixSS (small (by omega)) (by omega) g ?_
      walk_at "rd"
      have g2 : (l.drop i)[k]? = some l[i + k] := by rw [List.getElem?_drop]; exact List.getElem?_eq_getElem hik
      refine r_ite (fun h2 => ?_) (fun h2 => ?_)
      · have hk : k < (dsOf (l.drop i)).length := by
          rcases Nat.lt_or_ge k (dsOf (l.drop i)).length with z | z
          · exact z
          · have e : k = (dsOf (l.drop i)).length := by omega
            have e2 := tw_end (p := isDig) (l.drop i) l[i + k] (by rw [← g2, e]; rfl)
            rw [← dgl] at e2
            exact absurd h2 (of_decide_eq_false e2)
        refine ⟨fun σ2 H2 => ∃ k2 : Nat, σ2 = [some (.str (S l)), some (.int (i : Int)), some (.int ((i + k2 : Nat) : Int))] ∧ H2 = H' ∧ (m - 1) + k2 = (dsOf (l.drop i)).length, fun σ2 H2 z => ⟨m - 1, by omega, z⟩, ?_⟩
        walk_at "rd"
        exact ⟨k + 1, by rw [show ((i + (k + 1) : Nat) : Int) = ((i + k : Nat) : Int) + 1 by omega]; rfl, rfl, by omega⟩
      · have hk : k = (dsOf (l.drop i)).length := by
          rcases Nat.lt_or_ge k (dsOf (l.drop i)).length with z | z
          · obtain ⟨c, c1, c2⟩ := tw_get (p := isDig) (l.drop i) k z
            rw [g2] at c1
            rw [← Option.some.inj c1, ← dgl] at c2
            exact absurd (of_decide_eq_true c2) h2
          · omega
        walk_at "rd"
        rw [hk]
        exact q
    · have hk : k = (dsOf (l.drop i)).length := by
        rcases Nat.lt_or_ge k (dsOf (l.drop i)).length with z | z
        · obtain ⟨c, c1, c2⟩ := tw_get (p := isDig) (l.drop i) k z
          have := (List.getElem?_eq_some_iff.mp c1).1
          rw [List.length_drop] at this
          omega
        · omega
      walk_at "rd"
      rw [hk]
      exact q
end
end Fk

set_option Elab.async false
set_option linter.all false
set_option maxRecDepth 100000
set_option maxHeartbeats 4000000
namespace Fk
open PySem PySem.Spec PyProof.Rows L2 Fg Rt
local macro_rules | `(tactic| walk_at "rd1") => `(tactic| first
  | with_reducible refine r_seq ?_
  | with_reducible refine r_asg ?_
  | with_reducible refine r_gname ?_
  | with_reducible refine r_gsub ?_
  | with_reducible refine r_ret ?_
  | with_reducible refine r_retN ?_
  | with_reducible refine r_next ?_
  | with_reducible refine r_drop ?_
  | with_reducible refine r_ifS ?_
  | with_reducible refine r_if ?_
  | with_reducible refine r_par ?_
  | with_reducible refine r_pair ?_
  | with_reducible refine r_test ?_
  | with_reducible refine r_tB ?_
  | with_reducible refine r_not ?_
  | with_reducible refine r_and ?_
  | with_reducible refine r_or ?_
  | with_reducible refine r_andV ?_
  | with_reducible refine r_orV ?_
  | with_reducible refine r_notV ?_
  | with_reducible refine r_nil ?_
  | with_reducible refine r_cons ?_
  | with_reducible refine r_call ?_
  | with_reducible refine r_callS ?_
  | with_reducible refine r_cb ?_
  | with_reducible refine r_then ?_
  | with_reducible refine r_tup ?_
  | with_reducible refine r_lst ?_
  | with_reducible refine r_sl ?_
  | with_reducible refine r_nopart ?_
  | with_reducible refine r_part ?_
  | with_reducible refine r_lcR1 ?_
  | with_reducible refine r_lcR2 ?_
  | with_reducible refine r_lcL ?_
  | with_reducible refine r_lcT ?_
  | with_reducible refine r_forR1 ?_
  | with_reducible refine r_forR2 ?_
  | with_reducible refine r_forL ?_
  | with_reducible refine r_forT ?_
  | with_reducible refine r_forE ?_
  | with_reducible refine r_strE ?_
  | ((with_reducible refine r_rng1 ?hc ?_); (case hc => omega))
  | ((with_reducible refine r_rng2 ?hc ?_); (case hc => omega))
  | ((with_reducible refine' r_refL ?hc ?_); (case hc => first | assumption | exact Evl.sq_of (by assumption)))
  | ((with_reducible refine' r_refT ?hc ?_); (case hc => first | assumption | exact Evl.st_of (by assumption)))
  | with_reducible refine r_op ?_
  | with_reducible refine r_un ?_
  | with_reducible refine r_chain ?_
  | ((with_reducible refine' r_var ?hv ?_); (case hv => exact rfl))
  | with_reducible refine r_cS ?_
  | with_reducible refine r_cs ?_
  | with_reducible refine r_c ?_
  | with_reducible refine r_yes ?_
  | with_reducible refine r_bm ?_
  | with_reducible refine r_bl ?_
  | with_reducible refine r_in ?_
  | with_reducible refine r_ty ?_
  | with_reducible refine r_I0 ?_
  | ((with_reducible refine r_I ?hc ?_); (case hc => first | assumption | (show (0 : Int) < _; decide) | exact Or.inr ⟨by decide, by decide⟩ | exact Or.inr ⟨by omega, by omega⟩ | exact Or.inl ⟨by decide, by decide⟩ | exact (show CDivW _ _ from ⟨by decide, by decide +kernel⟩) | exact (show CPowW _ _ from ⟨by decide, by decide +kernel⟩) | (show (0 : Int) < _; omega)))
  | with_reducible refine r_U ?_
  | with_reducible refine r_eqI ?_
  | with_reducible refine r_neI ?_
  | with_reducible refine r_eqS ?_
  | with_reducible refine r_neS ?_
  | with_reducible refine r_eqB ?_
  | with_reducible refine r_neB ?_
  | with_reducible refine r_niS ?_
  | with_reducible refine r_inSS ?_
  | ((with_reducible refine r_slSS ?hc ?_); (case hc => first | exact small (by omega) | exact small (by simp; omega)))
  | ((with_reducible refine r_lenS ?hc ?_); (case hc => first | exact small (by omega) | exact small (by simp; omega)))
  | ((with_reducible refine' r_lenL ?hc ?_); (case hc => first | assumption | exact Evl.sq_of (by assumption)))
  | ((with_reducible refine' r_lenT ?hc ?_); (case hc => first | assumption | exact Evl.st_of (by assumption)))
  | ((with_reducible refine' r_ixL ?h1 ?h2 ?h3 ?_); (case h1 => first | assumption | exact Evl.sq_of (by assumption) | exact Evl.sq_of upd_same); (case h2 => first | decide | omega); (case h3 => first | exact rfl | assumption))
  | ((with_reducible refine' r_ixT ?h1 ?h2 ?h3 ?_); (case h1 => first | assumption | exact Evl.st_of (by assumption)); (case h2 => first | decide | omega); (case h3 => first | exact rfl | assumption))
  | with_reducible refine r_T ?_
  | with_reducible refine r_notNn ?_
  | with_reducible refine r_notN_int ?_
  | with_reducible refine r_notN_str ?_
  | with_reducible refine r_notN_ref ?_
  | with_reducible refine r_isNn ?_
  | with_reducible refine r_isN_int ?_
  | with_reducible refine r_isN_str ?_
  | with_reducible refine r_isN_ref ?_
  | ((with_reducible refine' r_isi ?ht ?hk ?_); (case ht => first | exact .base (.int _) | exact .base (.bl _) | exact .base (.str _) | exact .base .non | exact .base (.lst (by assumption)) | exact .base (.tup (by assumption))); (case hk => first | exact kb_int_int | exact kb_int_bool | exact kb_int_str | exact kb_int_list | exact kb_int_tuple | exact kb_bool_int | exact kb_bool_bool | exact kb_bool_str | exact kb_bool_list | exact kb_bool_tuple | exact kb_str_int | exact kb_str_bool | exact kb_str_str | exact kb_str_list | exact kb_str_tuple | exact kb_NoneType_int | exact kb_NoneType_bool | exact kb_NoneType_str | exact kb_NoneType_list | exact kb_NoneType_tuple | exact kb_list_int | exact kb_list_bool | exact kb_list_str | exact kb_list_list | exact kb_list_tuple | exact kb_tuple_int | exact kb_tuple_bool | exact kb_tuple_str | exact kb_tuple_list | exact kb_tuple_tuple))
  | with_reducible refine r_F ?_
  | with_reducible refine r_nT ?_
  | with_reducible refine r_nF ?_
  | with_reducible refine r_mko ?_
  | with_reducible refine r_xf ?_
  | ((with_reducible refine' r_sum ?hc ?_); (case hc => first | assumption | exact Evl.sq_of (by assumption)))
  | ((with_reducible refine' r_setL ?h1 ?h2 ?h3 ?_); (case h1 => first | assumption | exact upd_same); (case h2 => first | decide | omega); (case h3 => first | (show _ < _; decide) | (simp; done)))
  | with_reducible refine r_int ?_
  | with_reducible refine r_abs ?_)
local macro_rules | `(tactic| walk_at "rd") => `(tactic| repeat (walk_at "rd1"))

section
variable {P : Program} {w : World} {K : PySem.W.Frag} {mg : Str → Option Value} {base : Heap}
structure RowOk (b : Nat) (r : List Nat) : Prop where
  pos : 1 ≤ b
  lt : b < 2 ^ 13000
  row : b ≤ 24 → r.length = b ∧ ∀ c ∈ r, isSg c = true
  non : 24 < b → r = []
def togF (b : Nat) (r : List Nat) (b2 : Nat) (r2 : List Nat) (i : Nat) : Nat := if (r[i % b]?).getD 0 = 46 then (r2[i % b2]?).getD 0 else (r[i % b]?).getD 0
theorem getD_some {r : List Nat} {i : Nat} (h : i < r.length) : r[i]? = some ((r[i]?).getD 0) := by
  rw [List.getElem?_eq_getElem h]; rfl
def spTogether : Sp := fun vs H Q _ => ∃ (b : Nat) (r : List Nat) (b2 : Nat) (r2 : List Nat), vs = [.int (b : Int), .str (S r), .int (b2 : Int), .str (S r2)] ∧ RowOk b r ∧ RowOk b2 r2 ∧ ∀ p H', Ex H H' → H' p = some (.tup [.int ((Nat.lcm b b2 : Nat) : Int), .str (S (tog b r b2 r2))]) → Q (.ref p) H'
abbrev s_together : Stmt := topS 17
abbrev N_together : List Str := ["beats", "row", "other_beats", "other", "both", "signs", "beat", "sign"]
theorem sc_together : FnScope ["beats", "row", "other_beats", "other", "both", "signs", "beat", "sign"] ["beats", "row", "other_beats", "other"] (defScope s_together) := ⟨rfl, rfl, rfl, by decide +kernel, rfl, by decide +kernel, by decide +kernel⟩
theorem can_together (T : Bi mg) (F : Defd K mg "together" s_together ["beats", "row", "other_beats", "other"]) (c_MOST_BEATS : ∃ u, mg "MOST_BEATS" = some u ∧ RelV (.int 24) u) (c_DARK : ∃ u, mg "DARK" = some u ∧ RelV (.str (S [46])) u) (g_lcm : mg "lcm" = some (.builtin "math.lcm")) : Can P w K mg base L2.CX0 1 "together" ["beats", "row", "other_beats", "other"] spTogether := by
  refine can0 F sc_together (fun vs H Q E h => ?_) (fun f cdv A outer s H vs Q E hr h => ⟨_, (pss_cons (ps_set (i := 4) sc_together.nd rfl (by first | exact Or.inl rfl | exact Or.inr rfl) (pe_callBfun cr_lcm (by rfl) g_lcm (pa_cons (pv 0) (pa_cons (pv 2) pa_nil))))
  (pss_cons (ps_if (pt_cmpR op_gt (pv 4) (C8.pe_gc rfl c_MOST_BEATS) (nomark _)) (pss_one (ps_ret (pe_tup (pa_cons (pv 4) (pa_cons (pe_strL [] (by decide +kernel)) pa_nil))))) pss_nil)
  (pss_cons (ps_set (i := 5) sc_together.nd rfl (by first | exact Or.inl rfl | exact Or.inr rfl) (pe_lst pa_nil))
  (pss_cons (ps_for PassesOwn.never rfl (pi_range1 rfl T.b_range (pa_cons (pv 4) pa_nil)) (pg_name (i := 6) sc_together.nd rfl (by first | exact Or.inl rfl | exact Or.inr rfl))
    (pss_cons (ps_set (i := 7) sc_together.nd rfl (by first | exact Or.inl rfl | exact Or.inr rfl) (pe_ix ix_strS (pv 1) (pe_op op_mod (pv 6) (pv 0)) (fun _ _ => rfl)))
  (pss_one (ps_expr (pe_bm PySem.F.plainAttrs_list PySem.F.slot_list_append PySem.F.type_list_append mt_append (pv 5) (pa_cons (pe_ifExp (pt_cmpR op_eq (pv 7) (C8.pe_gc rfl c_DARK) (nomark _)) (pe_ix ix_strS (pv 3) (pe_op op_mod (pv 6) (pv 2)) (fun _ _ => rfl)) (pv 7)) pa_nil))))))
  (pss_one (ps_ret (pe_tup (pa_cons (pv 4) (pa_cons (pe_bm PySem.F.plainAttrs_str PySem.F.slot_str_join PySem.F.type_str_join mt_joinS (pe_strL [] (by decide +kernel)) (pa_cons (pv 5) pa_nil)) pa_nil))))))))), ?_⟩)
  · obtain ⟨_, _, _, _, rfl, _⟩ := h
    rfl
  · obtain ⟨b, r, b2, r2, rfl, h1, h2, q⟩ := h
    walk_at "rd"
    refine ⟨b, b2, rfl, h1.lt, h2.lt, ?_⟩
    walk_at "rd"
    refine r_ite (fun h => ?_) (fun h => ?_)
    · walk_at "rd"
      refine ⟨small (by show 2 ≤ 1000000; decide), fun p hp => ?_⟩
      refine q p _ (Evl.Ex.new hp) ?_
      rw [upd_same]
      have e : tog b r b2 r2 = [] := by
        unfold tog
        rw [if_neg (by omega)]
      rw [e]
    · have h24 : Nat.lcm b b2 ≤ 24 := by omega
      obtain ⟨l1, l2, l3, _⟩ := lcm_le h1.pos h2.pos
      obtain ⟨e1, e2⟩ := h1.row (by omega)
      obtain ⟨e3, e4⟩ := h2.row (by omega)
      have p1 := h1.pos
      have p2 := h2.pos
      have et : tog b r b2 r2 = (List.range (Nat.lcm b b2)).map (togF b r b2 r2) := by
        unfold tog
        rw [if_pos h24]
        rfl
      generalize hm : Nat.lcm b b2 = m at *
      walk_at "rd"
      refine ⟨small (by show 0 ≤ 1000000; decide), fun D hD => ?_⟩
      walk_at "rd"
      let J : Nat → L2.St → Hp → Prop := fun i σ' H' => ∃ o o2, σ' = [some (.int (b : Int)), some (.str (S r)), some (.int (b2 : Int)), some (.str (S r2)), some (.int (m : Int)), some (.ref D), o, o2] ∧ H' = upd H D (.lst (((List.range i).map (togF b r b2 r2)).map fun c => .str (S [c])))
      refine forR J ⟨_, _, rfl, rfl⟩ (fun i σ' H' hi hJ => ?_) (fun σ' H' hJ => ?_)
      · obtain ⟨o, o2, rfl, rfl⟩ := hJ
        have g1 : r[(((0 : Int) + (i : Int)) % (b : Int)).toNat]? = some ((r[i % b]?).getD 0) := by
          rw [show ((0 : Int) + (i : Int)) % (b : Int) = ((i % b : Nat) : Int) by rw [Int.zero_add, Int.natCast_emod], Int.toNat_natCast]
          exact getD_some (by rw [e1]; exact Nat.mod_lt _ p1)
        have g2 : r2[(((0 : Int) + (i : Int)) % (b2 : Int)).toNat]? = some ((r2[i % b2]?).getD 0) := by
          rw [show ((0 : Int) + (i : Int)) % (b2 : Int) = ((i % b2 : Nat) : Int) by rw [Int.zero_add, Int.natCast_emod], Int.toNat_natCast]
          exact getD_some (by rw [e3]; exact Nat.mod_lt _ p2)
        walk_at "rd"
        refine r_ixSS (small (by omega)) (Int.emod_nonneg _ (by omega)) g1 ?_
        walk_at "rd"
        refine ⟨.inl ⟨rfl, _, Evl.sq_of upd_same⟩, ?_⟩
        walk_at "rd"
        have fin : ∀ x, x = togF b r b2 r2 i → rAppend (.ref D) [.str (S [x])] (upd H D (.lst (((List.range i).map (togF b r b2 r2)).map fun c => .str (S [c])))) fun _ H1 => J (i + 1) [some (.int (b : Int)), some (.str (S r)), some (.int (b2 : Int)), some (.str (S r2)), some (.int (m : Int)), some (.ref D), some (.int ((0 : Int) + (i : Int))), some (.str (S [(r[i % b]?).getD 0]))] H1 := by
          intro x hx
          refine ⟨D, _, _, rfl, rfl, upd_same, ?_, _, _, rfl, ?_⟩
          · rw [List.length_map, List.length_map, List.length_range, sizeLine_eq]
            omega
          · rw [upd_upd, List.range_succ, List.map_append, List.map_append, hx]
            rfl
        refine r_ite (fun z => ?_) (fun z => ?_)
        · walk_at "rd"
          refine r_ixSS (small (by omega)) (Int.emod_nonneg _ (by omega)) g2 ?_
          exact fin _ (by unfold togF; rw [if_pos (by injection z)])
        · walk_at "rd"
          exact fin _ (by unfold togF; rw [if_neg (fun y => z (by rw [y]))])
      · obtain ⟨o, o2, rfl, rfl⟩ := hJ
        walk_at "rd"
        refine r_joinC (Evl.sq_of upd_same) (by rw [List.length_map, List.length_range]; omega) ?_
        walk_at "rd"
        refine ⟨small (by show 2 ≤ 1000000; decide), fun p hp => ?_⟩
        refine q p _ ((Evl.Ex.new hD).trans (Evl.Ex.new hp)) ?_
        rw [upd_same, et]
        rfl
def spSize (C : Addr) : Sp := fun vs H Q E => ∃ (l : List Nat) (i d : Nat) (ds : List Nat), vs = [.str (S l), .int (i : Int), .int ((i + (ds.length + 1) : Nat) : Int)] ∧ l.length ≤ 5000 ∧ dsOf (l.drop i) = d :: ds ∧ (d = 48 → Wish C "at" (.int (i : Int)) H E) ∧ (d ≠ 48 → Q (.int ((dval ((d :: ds).take 3) : Nat) : Int)) H)
theorem ds_get {l : List Nat} {i d : Nat} {ds : List Nat} (h : dsOf (l.drop i) = d :: ds) : l[i]? = some d ∧ i < l.length := by
  have e := ds_rs (l.drop i)
  rw [h] at e
  have e2 : l[i]? = some d := by
    have : (l.drop i)[0]? = some d := by rw [← e]; rfl
    rwa [List.getElem?_drop, Nat.add_zero] at this
  exact ⟨e2, (List.getElem?_eq_some_iff.mp e2).1⟩
theorem ds_take {l : List Nat} {i d : Nat} {ds : List Nat} {k : Nat} (h : dsOf (l.drop i) = d :: ds) (hk : k = min 3 (ds.length + 1)) : (l.drop i).take k = (d :: ds).take 3 := by
  have e := ds_rs (l.drop i)
  rw [h] at e
  rw [← e, List.take_append_of_le_length (by rw [List.length_cons]; omega), hk]
  rcases Nat.le_total 3 (ds.length + 1) with z | z
  · rw [Nat.min_eq_left z]
  · rw [Nat.min_eq_right z, List.take_of_length_le (by rw [List.length_cons]; omega), List.take_of_length_le (by rw [List.length_cons]; omega)]
abbrev s_size_of_run : Stmt := topS 20
abbrev N_size_of_run : List Str := ["text", "at", "end"]
theorem sc_size_of_run : FnScope ["text", "at", "end"] ["text", "at", "end"] (defScope s_size_of_run) := ⟨rfl, rfl, rfl, by decide +kernel, rfl, by decide +kernel, by decide +kernel⟩
theorem can_size_of_run (T : Bi mg) (F : Defd K mg "size_of_run" s_size_of_run ["text", "at", "end"]) {A_BadText : Addr} (E_BadText : Err P w K mg base "BadText" A_BadText "at") : Can P w K mg base (L2.CX P w) 3 "size_of_run" ["text", "at", "end"] (spSize A_BadText) := by
  refine canX F sc_size_of_run (fun vs H Q E h => ?_) (fun f cdv A outer s H vs Q E hr h => ⟨_, (pss_cons (ps_if (pt_cmpR op_eq (pe_ix ix_strS (pv 0) (pv 1) (fun _ _ => rfl)) (pe_strL [48] (by decide +kernel)) (nomark _)) (pss_one (ps_raise rfl (takes_of rfl rfl rfl rfl) (pmk_err E_BadText hr (by decide) rfl (pa_cons (pv 1) pa_nil)))) pss_nil)
  (pss_one (ps_ret (pe_callTy call_int_str (by rfl) T.b_int boot_int (pa_cons (pe_slice sl_strS (pv 0) (po_some (pv 1)) (po_some (pe_callB (call_min2 rfl) (by rfl) T.b_min boot_min (pa_cons (pv 2) (pa_cons (pe_op op_add (pv 1) pe_int) pa_nil))))) pa_nil))))), ?_⟩)
  · obtain ⟨_, _, _, _, rfl, _⟩ := h
    rfl
  · obtain ⟨l, i, d, ds, rfl, hl, hd, w1, q⟩ := h
    obtain ⟨g, gi⟩ := ds_get hd
    have g' : l[(i : Int).toNat]? = some d := by rw [Int.toNat_natCast]; exact g
    walk_at "rd"
    refine r_ixSS (small (by omega)) (by omega) g' ?_
    walk_at "rd"
    refine r_ite (fun h => ?_) (fun h => ?_)
    · walk_at "rd"
      exact r_mk (w1 (by injection h))
    · walk_at "rd"
      refine ⟨_, _, rfl, ?_⟩
      have ek : (if ((i : Int) + 3) < (((i + (ds.length + 1) : Nat)) : Int) then ((i : Int) + 3) else (((i + (ds.length + 1) : Nat)) : Int)) = ((i + min 3 (ds.length + 1) : Nat) : Int) := by
        split <;> omega
      rw [ek]
      walk_at "rd"
      rw [cut_mid (by omega) (by omega), Int.toNat_natCast, Int.toNat_natCast, show i + min 3 (ds.length + 1) - i = min 3 (ds.length + 1) by omega, ds_take hd rfl]
      have hx : ∀ c ∈ (d :: ds).take 3, isDig c = true := fun c hc => by
        have := ds_dig (l.drop i) c
        rw [hd] at this
        exact this (List.mem_of_mem_take hc)
      refine ⟨_, _, rfl, int_digits (by simp) (by rw [List.length_take]; omega) hx, ?_, q fun z => h (by rw [z])⟩
      rw [S_len, List.length_take]
      omega
def whl (s : List Nat) (b : Nat) : Option Nat := match dsOf s with
  | [] => none
  | d :: ds => if d = 48 then none else if b ≤ dval ((d :: ds).take 3) ∧ dval ((d :: ds).take 3) ≤ 24 then some (dval ((d :: ds).take 3)) else none
theorem rdWhole_eq (s : List Nat) (b : Nat) (row : List Nat) : rdWhole s b row = match whl s b with
  | none => .error s.length
  | some w => .ok (rsOf s, w, row ++ List.replicate (w - b) 46) := by
  unfold rdWhole whl
  cases dsOf s with
  | nil => rfl
  | cons d ds =>
    show (if d = 48 then _ else _) = _
    by_cases h : d = 48
    · rw [if_pos h]
      simp only [if_pos h]
    · rw [if_neg h]
      simp only [if_neg h]
      by_cases h2 : b ≤ dval ((d :: ds).take 3) ∧ dval ((d :: ds).take 3) ≤ 24
      · rw [if_pos h2]
        simp only [if_pos h2]
      · rw [if_neg h2]
        simp only [if_neg h2]
def spWhole (C : Addr) : Sp := fun vs H Q E => ∃ (l : List Nat) (i b : Nat), vs = [.str (S l), .int (i : Int), .int (b : Int)] ∧ l.length ≤ 5000 ∧ (whl (l.drop i) b = none → Wish C "at" (.int (i : Int)) H E) ∧
  ∀ w p H', whl (l.drop i) b = some w → Ex H H' → H' p = some (.tup [.int ((i + (dsOf (l.drop i)).length : Nat) : Int), .int (w : Int)]) → Q (.ref p) H'
abbrev s_read_whole : Stmt := topS 23
abbrev N_read_whole : List Str := ["text", "at", "beats", "end", "whole"]
theorem sc_read_whole : FnScope ["text", "at", "beats", "end", "whole"] ["text", "at", "beats"] (defScope s_read_whole) := ⟨rfl, rfl, rfl, by decide +kernel, rfl, by decide +kernel, by decide +kernel⟩
theorem can_read_whole (T : Bi mg) (F : Defd K mg "read_whole" s_read_whole ["text", "at", "beats"]) (c_MOST_BEATS : ∃ u, mg "MOST_BEATS" = some u ∧ RelV (.int 24) u) {A_BadText : Addr} (E_BadText : Err P w K mg base "BadText" A_BadText "at") (C_end_of_run : Can P w K mg base L2.CX0 1 "end_of_run" ["text", "at"] spEnd) (C_size_of_run : Can P w K mg base (L2.CX P w) 3 "size_of_run" ["text", "at", "end"] (spSize A_BadText)) : Can P w K mg base (L2.CX P w) 4 "read_whole" ["text", "at", "beats"] (spWhole A_BadText) := by
  refine canX F sc_read_whole (fun vs H Q E h => ?_) (fun f cdv A outer s H vs Q E hr h => ⟨_, (pss_cons (ps_set (i := 3) sc_read_whole.nd rfl (by first | exact Or.inl rfl | exact Or.inr rfl) (pe_can C_end_of_run hr (by decide) rfl (pa_cons (pv 0) (pa_cons (pv 1) pa_nil))))
  (pss_cons (ps_if (pt_cmpR op_eq (pv 3) (pv 1) (nomark _)) (pss_one (ps_raise rfl (takes_of rfl rfl rfl rfl) (pmk_err E_BadText hr (by decide) rfl (pa_cons (pv 1) pa_nil)))) pss_nil)
  (pss_cons (ps_set (i := 4) sc_read_whole.nd rfl (by first | exact Or.inl rfl | exact Or.inr rfl) (pe_canX C_size_of_run hr (by decide) rfl (passes_call (takes_of rfl rfl rfl rfl) (fun _ _ _ _ h => h)) (pa_cons (pv 0) (pa_cons (pv 1) (pa_cons (pv 3) pa_nil)))))
  (pss_cons (ps_if (pt_not (pt_chain op_le op_le (pv 2) (pv 4) (C8.pe_gc rfl c_MOST_BEATS))) (pss_one (ps_raise rfl (takes_of rfl rfl rfl rfl) (pmk_err E_BadText hr (by decide) rfl (pa_cons (pv 1) pa_nil)))) pss_nil)
  (pss_one (ps_ret (pe_tup (pa_cons (pv 3) (pa_cons (pv 4) pa_nil))))))))), ?_⟩)
  · obtain ⟨_, _, _, rfl, _⟩ := h
    rfl
  · obtain ⟨l, i, b, rfl, hl, w1, q⟩ := h
    walk_at "rd"
    refine ⟨l, i, rfl, by omega, ?_⟩
    walk_at "rd"
    cases hd : dsOf (l.drop i) with
    | nil =>
      refine r_ite (fun h => ?_) (fun h => absurd (by rw [List.length_nil, Nat.add_zero]) h)
      walk_at "rd"
      exact r_mk (w1 (by unfold whl; rw [hd]))
    | cons d ds =>
      refine r_ite (fun h => absurd h (by rw [List.length_cons]; omega)) (fun _ => ?_)
      walk_at "rd"
      refine ⟨l, i, d, ds, rfl, hl, hd, fun h => w1 (by unfold whl; rw [hd]; simp only [if_pos h]), fun h => ?_⟩
      walk_at "rd"
      have hw : whl (l.drop i) b = if b ≤ dval ((d :: ds).take 3) ∧ dval ((d :: ds).take 3) ≤ 24 then some (dval ((d :: ds).take 3)) else none := by
        unfold whl
        rw [hd]
        simp only [if_neg h]
      generalize dval ((d :: ds).take 3) = t at hw
      refine r_ite (fun h1 => ?_) (fun h1 => ?_)
      · walk_at "rd"
        refine r_iteN (fun h2 => ?_) (fun h2 => ?_)
        · walk_at "rd"
          exact r_mk (w1 (by rw [hw, if_neg (by omega)]))
        · walk_at "rd"
          refine ⟨small (by show 2 ≤ 1000000; decide), fun p hp => ?_⟩
          refine q t p _ (by rw [hw, if_pos (by omega)]) (Evl.Ex.new hp) ?_
          rw [upd_same, hd]
      · walk_at "rd"
        exact r_mk (w1 (by rw [hw, if_neg (by omega)]))
end
end Fk

set_option Elab.async false
set_option linter.all false
set_option maxRecDepth 100000
set_option maxHeartbeats 4000000
namespace Fk
open PySem PySem.Spec PyProof.Rows L2 Fg Rt
local macro_rules | `(tactic| walk_at "rd1") => `(tactic| first
  | with_reducible refine r_seq ?_
  | with_reducible refine r_asg ?_
  | with_reducible refine r_gname ?_
  | with_reducible refine r_gsub ?_
  | with_reducible refine r_ret ?_
  | with_reducible refine r_retN ?_
  | with_reducible refine r_next ?_
  | with_reducible refine r_drop ?_
  | with_reducible refine r_ifS ?_
  | with_reducible refine r_if ?_
  | with_reducible refine r_par ?_
  | with_reducible refine r_pair ?_
  | with_reducible refine r_test ?_
  | with_reducible refine r_tB ?_
  | with_reducible refine r_not ?_
  | with_reducible refine r_and ?_
  | with_reducible refine r_or ?_
  | with_reducible refine r_andV ?_
  | with_reducible refine r_orV ?_
  | with_reducible refine r_notV ?_
  | with_reducible refine r_nil ?_
  | with_reducible refine r_cons ?_
  | with_reducible refine r_call ?_
  | with_reducible refine r_callS ?_
  | with_reducible refine r_cb ?_
  | with_reducible refine r_then ?_
  | with_reducible refine r_tup ?_
  | with_reducible refine r_lst ?_
  | with_reducible refine r_sl ?_
  | with_reducible refine r_nopart ?_
  | with_reducible refine r_part ?_
  | with_reducible refine r_lcR1 ?_
  | with_reducible refine r_lcR2 ?_
  | with_reducible refine r_lcL ?_
  | with_reducible refine r_lcT ?_
  | with_reducible refine r_forR1 ?_
  | with_reducible refine r_forR2 ?_
  | with_reducible refine r_forL ?_
  | with_reducible refine r_forT ?_
  | with_reducible refine r_forE ?_
  | with_reducible refine r_strE ?_
  | ((with_reducible refine r_rng1 ?hc ?_); (case hc => omega))
  | ((with_reducible refine r_rng2 ?hc ?_); (case hc => omega))
  | ((with_reducible refine' r_refL ?hc ?_); (case hc => first | assumption | exact Evl.sq_of (by assumption)))
  | ((with_reducible refine' r_refT ?hc ?_); (case hc => first | assumption | exact Evl.st_of (by assumption)))
  | with_reducible refine r_op ?_
  | with_reducible refine r_un ?_
  | with_reducible refine r_chain ?_
  | ((with_reducible refine' r_var ?hv ?_); (case hv => exact rfl))
  | with_reducible refine r_cS ?_
  | with_reducible refine r_cs ?_
  | with_reducible refine r_c ?_
  | with_reducible refine r_yes ?_
  | with_reducible refine r_bm ?_
  | with_reducible refine r_bl ?_
  | with_reducible refine r_in ?_
  | with_reducible refine r_ty ?_
  | with_reducible refine r_I0 ?_
  | ((with_reducible refine r_I ?hc ?_); (case hc => first | assumption | (show (0 : Int) < _; decide) | exact Or.inr ⟨by decide, by decide⟩ | exact Or.inr ⟨by omega, by omega⟩ | exact Or.inl ⟨by decide, by decide⟩ | exact (show CDivW _ _ from ⟨by decide, by decide +kernel⟩) | exact (show CPowW _ _ from ⟨by decide, by decide +kernel⟩) | (show (0 : Int) < _; omega)))
  | with_reducible refine r_U ?_
  | with_reducible refine r_eqI ?_
  | with_reducible refine r_neI ?_
  | with_reducible refine r_eqS ?_
  | with_reducible refine r_neS ?_
  | with_reducible refine r_eqB ?_
  | with_reducible refine r_neB ?_
  | with_reducible refine r_niS ?_
  | with_reducible refine r_inSS ?_
  | ((with_reducible refine r_slSS ?hc ?_); (case hc => first | exact small (by omega) | exact small (by simp; omega)))
  | ((with_reducible refine r_lenS ?hc ?_); (case hc => first | exact small (by omega) | exact small (by simp; omega)))
  | ((with_reducible refine' r_lenL ?hc ?_); (case hc => first | assumption | exact Evl.sq_of (by assumption)))
  | ((with_reducible refine' r_lenT ?hc ?_); (case hc => first | assumption | exact Evl.st_of (by assumption)))
  | ((with_reducible refine' r_ixL ?h1 ?h2 ?h3 ?_); (case h1 => first | assumption | exact Evl.sq_of (by assumption) | exact Evl.sq_of upd_same); (case h2 => first | decide | omega); (case h3 => first | exact rfl | assumption))
  | ((with_reducible refine' r_ixT ?h1 ?h2 ?h3 ?_); (case h1 => first | assumption | exact Evl.st_of (by assumption)); (case h2 => first | decide | omega); (case h3 => first | exact rfl | assumption))
  | with_reducible refine r_T ?_
  | with_reducible refine r_notNn ?_
  | with_reducible refine r_notN_int ?_
  | with_reducible refine r_notN_str ?_
  | with_reducible refine r_notN_ref ?_
  | with_reducible refine r_isNn ?_
  | with_reducible refine r_isN_int ?_
  | with_reducible refine r_isN_str ?_
  | with_reducible refine r_isN_ref ?_
  | ((with_reducible refine' r_isi ?ht ?hk ?_); (case ht => first | exact .base (.int _) | exact .base (.bl _) | exact .base (.str _) | exact .base .non | exact .base (.lst (by assumption)) | exact .base (.tup (by assumption))); (case hk => first | exact kb_int_int | exact kb_int_bool | exact kb_int_str | exact kb_int_list | exact kb_int_tuple | exact kb_bool_int | exact kb_bool_bool | exact kb_bool_str | exact kb_bool_list | exact kb_bool_tuple | exact kb_str_int | exact kb_str_bool | exact kb_str_str | exact kb_str_list | exact kb_str_tuple | exact kb_NoneType_int | exact kb_NoneType_bool | exact kb_NoneType_str | exact kb_NoneType_list | exact kb_NoneType_tuple | exact kb_list_int | exact kb_list_bool | exact kb_list_str | exact kb_list_list | exact kb_list_tuple | exact kb_tuple_int | exact kb_tuple_bool | exact kb_tuple_str | exact kb_tuple_list | exact kb_tuple_tuple))
  | with_reducible refine r_F ?_
  | with_reducible refine r_nT ?_
  | with_reducible refine r_nF ?_
  | with_reducible refine r_mko ?_
  | with_reducible refine r_xf ?_
  | ((with_reducible refine' r_sum ?hc ?_); (case hc => first | assumption | exact Evl.sq_of (by assumption)))
  | ((with_reducible refine' r_setL ?h1 ?h2 ?h3 ?_); (case h1 => first | assumption | exact upd_same); (case h2 => first | decide | omega); (case h3 => first | (show _ < _; decide) | (simp; done)))
  | with_reducible refine r_int ?_
  | with_reducible refine r_abs ?_)
local macro_rules | `(tactic| walk_at "rd") => `(tactic| repeat (walk_at "rd1"))

section
variable {P : Program} {w : World} {K : PySem.W.Frag} {mg : Str → Option Value} {base : Heap}
def OutR (C : Addr) (l : List Nat) (o : Res) (H : Hp) (Q : VK) (E : XK) : Prop := match o with
  | .error e => Wish C "at" (.int ((l.length - e : Nat) : Int)) H E
  | .ok g => ∀ p H', Ex H H' → H' p = some (.tup [.int ((l.length - g.1.length : Nat) : Int), .int (g.2.1 : Int), .str (S g.2.2)]) → Q (.ref p) H'
theorem OutR.ex {C : Addr} {l : List Nat} {o : Res} {H H' : Hp} {Q : VK} {E : XK} (h : OutR C l o H Q E) (e : Ex H H') : OutR C l o H' Q E := by
  cases o with
  | error x => exact Wish.ex h e
  | ok g => exact fun p H2 e2 h2 => h p H2 (e.trans e2) h2
theorem OutR.bad {C : Addr} {l : List Nat} {o : Res} {H : Hp} {Q : VK} {E : XK} {e : Nat} {z : Int} (h : OutR C l o H Q E) (he : o = .error e) (hz : z = ((l.length - e : Nat) : Int)) : Wish C "at" (.int z) H E := by
  subst he
  rw [hz]
  exact h
theorem OutR.good {C : Addr} {l : List Nat} {o : Res} {H : Hp} {Q : VK} {E : XK} {g : Got} (h : OutR C l o H Q E) (he : o = .ok g) {p : Addr} {H' : Hp} (ex : Ex H H') {z y : Int} {r : List Nat} (hp : H' p = some (.tup [.int z, .int y, .str (S r)])) (hz : z = ((l.length - g.1.length : Nat) : Int)) (hy : y = (g.2.1 : Int)) (hr : r = g.2.2) : Q (.ref p) H' := by
  subst he
  subst hz hy hr
  exact h p H' ex hp
def spParts (C : Addr) (n : Nat) : Sp := fun vs H Q E => ∃ (l : List Nat) (i : Nat), vs = [.str (S l), .int (i : Int), .int (6 - (n : Int))] ∧ l.length ≤ 2000 ∧ i ≤ l.length ∧ OutR C l (rdAt n (decide (n = 6)) (l.drop i)) H Q E
def spBelow (C : Addr) : Nat → Sp
  | 0 => fun _ _ _ _ => False
  | n + 1 => spParts C n
def spItem (C : Addr) (n : Nat) : Sp := fun vs H Q E => ∃ (l : List Nat) (i : Nat), vs = [.str (S l), .int (i : Int), .int (6 - (n : Int))] ∧ n ≤ 6 ∧ l.length ≤ 2000 ∧ i ≤ l.length ∧ goes (l.drop i) = true ∧ OutR C l (rdItem (innerOf n) (l.drop i)) H Q E
theorem r_gtup3 {K : PySem.W.Frag} {σ : L2.St} {H : Hp} {a : Addr} {n i j m : Nat} {x y z : V} {Q : L2.St → Hp → Prop} (hn : n = 3) (h : SqT K H a [x, y, z]) (q : Q (((σ.set i (some x)).set j (some y)).set m (some z)) H) : gTup K n (gCons (gName i) (gCons (gName j) (gCons (gName m) gNil))) (.ref a) σ H Q := by
  subst hn
  exact ⟨a, [x, y, z], rfl, h, rfl, x, [y, z], rfl, y, [z], rfl, z, [], rfl, rfl, q⟩
theorem big_lt {k b : Nat} (hk : k ≤ 2000) (h : b ≤ 2 ^ (6 * k)) : b < 2 ^ 13000 := Nat.lt_of_le_of_lt h (Nat.pow_lt_pow_right (by decide) (by omega))
theorem flat_one (t c : Nat) : (List.replicate t [c]).flatten = List.replicate t c := by
  induction t with
  | zero => rfl
  | succ t ih => rw [List.replicate_succ, List.flatten_cons, ih, List.replicate_succ]; rfl
theorem one_le {l : List Nat} {i : Nat} : ((l.drop i).take 1).length ≤ 1 := by rw [List.length_take]; omega
abbrev s_read_item : Stmt := topS 24
abbrev N_read_item : List Str := ["text", "at", "deep", "end", "char", "times", "closing", "beats", "row"]
theorem sc_read_item : FnScope ["text", "at", "deep", "end", "char", "times", "closing", "beats", "row"] ["text", "at", "deep"] (defScope s_read_item) := ⟨rfl, rfl, rfl, by decide +kernel, rfl, by decide +kernel, by decide +kernel⟩
theorem can_read_item (T : Bi mg) (F : Defd K mg "read_item" s_read_item ["text", "at", "deep"]) {n k : Nat} (hk : 3 ≤ k) (c_LEAST_TIMES : ∃ u, mg "LEAST_TIMES" = some u ∧ RelV (.int 2) u) (c_MOST_TIMES : ∃ u, mg "MOST_TIMES" = some u ∧ RelV (.int 24) u) (c_MOST_DEEP : ∃ u, mg "MOST_DEEP" = some u ∧ RelV (.int 6) u) {A_BadText : Addr} (E_BadText : Err P w K mg base "BadText" A_BadText "at") (C_end_of_run : Can P w K mg base L2.CX0 1 "end_of_run" ["text", "at"] spEnd) (C_size_of_run : Can P w K mg base (L2.CX P w) 3 "size_of_run" ["text", "at", "end"] (spSize A_BadText)) (C_char_at : Can P w K mg base L2.CX0 1 "char_at" ["text", "at"] spChar) (C_is_sign : Can P w K mg base L2.CX0 1 "is_sign" ["thing"] spIsSign) (C_kept : Can P w K mg base L2.CX0 1 "kept" ["beats", "row"] spKept) (C_read_parts : Can P w K mg base (L2.CX P w) k "read_parts" ["text", "at", "deep"] (spBelow A_BadText n)) : Can P w K mg base (L2.CX P w) (k + 1) "read_item" ["text", "at", "deep"] (spItem A_BadText n) := by
  refine canX F sc_read_item (fun vs H Q E h => ?_) (fun f cdv A outer s H vs Q E hr h => ⟨_, (pss_cons (ps_set (i := 3) sc_read_item.nd rfl (by first | exact Or.inl rfl | exact Or.inr rfl) (pe_can C_end_of_run hr (by omega) rfl (pa_cons (pv 0) (pa_cons (pv 1) pa_nil))))
  (pss_cons (ps_set (i := 4) sc_read_item.nd rfl (by first | exact Or.inl rfl | exact Or.inr rfl) (pe_can C_char_at hr (by omega) rfl (pa_cons (pv 0) (pa_cons (pv 3) pa_nil))))
  (pss_cons (ps_if (pt_cmpR op_eq (pv 3) (pv 1) (nomark _)) (pss_one (ps_ret (pe_tup (pa_cons (pe_op op_add (pv 1) pe_int) (pa_cons pe_int (pa_cons (pv 4) pa_nil)))))) pss_nil)
  (pss_cons (ps_set (i := 5) sc_read_item.nd rfl (by first | exact Or.inl rfl | exact Or.inr rfl) (pe_canX C_size_of_run hr (by omega) rfl (passes_call (takes_of rfl rfl rfl rfl) (fun _ _ _ _ h => h)) (pa_cons (pv 0) (pa_cons (pv 1) (pa_cons (pv 3) pa_nil)))))
  (pss_cons (ps_if (PW.pt (pw_and (pt_not (pt_val (pe_can C_is_sign hr (by omega) rfl (pa_cons (pv 4) pa_nil)))) (pw_and1 (pt_cmpR op_ne (pv 4) (pe_strL [40] (by decide +kernel)) (nomark _))))) (pss_one (ps_raise rfl (takes_of rfl rfl rfl rfl) (pmk_err E_BadText hr (by omega) rfl (pa_cons (pv 3) pa_nil)))) pss_nil)
  (pss_cons (ps_if (pt_not (pt_chain op_le op_le (C8.pe_gc rfl c_LEAST_TIMES) (pv 5) (C8.pe_gc rfl c_MOST_TIMES))) (pss_one (ps_raise rfl (takes_of rfl rfl rfl rfl) (pmk_err E_BadText hr (by omega) rfl (pa_cons (pv 1) pa_nil)))) pss_nil)
  (pss_cons (ps_if (pt_val (pe_can C_is_sign hr (by omega) rfl (pa_cons (pv 4) pa_nil))) (pss_one (ps_ret (pe_tup (pa_cons (pe_op op_add (pv 3) pe_int) (pa_cons (pv 5) (pa_cons (pe_op op_repS (pv 4) (pv 5)) pa_nil)))))) pss_nil)
  (pss_cons (ps_if (pt_cmpR op_eq (pv 2) (C8.pe_gc rfl c_MOST_DEEP) (nomark _)) (pss_one (ps_raise rfl (takes_of rfl rfl rfl rfl) (pmk_err E_BadText hr (by omega) rfl (pa_cons (pv 3) pa_nil)))) pss_nil)
  (pss_cons (ps_asg (pe_canX C_read_parts hr (by omega) rfl (passes_call (takes_of rfl rfl rfl rfl) (fun _ _ _ _ h => h)) (pa_cons (pv 0) (pa_cons (pe_op op_add (pv 3) pe_int) (pa_cons (pe_op op_add (pv 2) pe_int) pa_nil)))) (pg_tup rfl (pgs_cons (pg_name (i := 6) sc_read_item.nd rfl (by first | exact Or.inl rfl | exact Or.inr rfl)) (pgs_cons (pg_name (i := 7) sc_read_item.nd rfl (by first | exact Or.inl rfl | exact Or.inr rfl)) (pgs_cons (pg_name (i := 8) sc_read_item.nd rfl (by first | exact Or.inl rfl | exact Or.inr rfl)) pgs_nil)))))
  (pss_one (ps_ret (pe_tup (pa_cons (pe_op op_add (pv 6) pe_int) (pa_cons (pe_op op_mulW (pv 5) (pv 7)) (pa_cons (pe_can C_kept hr (by omega) rfl (pa_cons (pe_op op_mulW (pv 5) (pv 7)) (pa_cons (pe_op op_repS (pv 8) (pv 5)) pa_nil))) pa_nil))))))))))))))), ?_⟩)
  · obtain ⟨_, _, rfl, _⟩ := h
    rfl
  · obtain ⟨l, i, rfl, hn, hl, hi, hg, q⟩ := h
    have sl : (l.drop i).length = l.length - i := List.length_drop
    walk_at "rd"
    refine ⟨l, i, rfl, by omega, ?_⟩
    walk_at "rd"
    refine ⟨l, _, rfl, by omega, ?_⟩
    walk_at "rd"
    have hrs := rs_drop (l.drop i)
    rw [List.drop_drop] at hrs
    rw [← hrs]
    cases hd : dsOf (l.drop i) with
    | nil =>
      refine r_ite (fun h => ?_) (fun h => absurd (by rw [List.length_nil, Nat.add_zero]) h)
      walk_at "rd"
      have hr0 : rsOf (l.drop i) = l.drop i := by rw [hrs, hd, List.length_nil, Nat.add_zero]
      have s1 : 1 ≤ (l.drop i).length := by
        cases hs : l.drop i with
        | nil => rw [hs] at hg; cases hg
        | cons a b => simp
      have ho : rdItem (innerOf n) (l.drop i) = .ok ((l.drop i).drop 1, 1, (l.drop i).take 1) := by
        unfold rdItem
        rw [hd]
      refine ⟨small (by show 3 ≤ 1000000; decide), fun p hp => ?_⟩
      refine q.good ho (Evl.Ex.new hp) upd_same ?_ rfl (by rw [hr0])
      show (i : Int) + 1 = ((l.length - ((l.drop i).drop 1).length : Nat) : Int)
      rw [List.length_drop]
      omega
    | cons d ds =>
      refine r_ite (fun h => absurd h (by rw [List.length_cons]; omega)) (fun _ => ?_)
      walk_at "rd"
      have hlr := len_rs (l.drop i)
      rw [hd, List.length_cons] at hlr
      have ho0 : d = 48 → rdItem (innerOf n) (l.drop i) = .error (l.drop i).length := fun h => by
        unfold rdItem
        rw [hd]
        simp only [if_pos h]
      refine ⟨l, i, d, ds, rfl, by omega, hd, fun h => q.bad (ho0 h) (by rw [sl]; omega), fun h48 => ?_⟩
      clear ho0
      walk_at "rd"
      cases hc : rsOf (l.drop i) with
      | nil =>
        have ho : rdItem (innerOf n) (l.drop i) = .error 0 := by
          unfold rdItem
          rw [hd]
          simp only [if_neg h48]
          rw [hc]
        rw [hc] at hlr
        refine ⟨[], rfl, by decide, ?_⟩
        walk_at "rd"
        refine r_iteN (fun _ => ?_) (fun z => absurd z (by decide))
        walk_at "rd"
        refine r_mk (q.bad ho ?_)
        rw [List.length_nil] at hlr
        rw [List.length_cons]
        omega
      | cons c r =>
        rw [hc, List.length_cons] at hlr
        have ho : rdItem (innerOf n) (l.drop i) = (if isSg c = true then (if 2 ≤ dval ((d :: ds).take 3) ∧ dval ((d :: ds).take 3) ≤ 24 then .ok (r, dval ((d :: ds).take 3), List.replicate (dval ((d :: ds).take 3)) c) else .error (l.drop i).length)
          else if c = 40 then (if 2 ≤ dval ((d :: ds).take 3) ∧ dval ((d :: ds).take 3) ≤ 24 then grp (innerOf n) (dval ((d :: ds).take 3)) r else .error (l.drop i).length)
          else .error (r.length + 1)) := by
          unfold rdItem
          rw [hd]
          simp only [if_neg h48]
          rw [hc]
        have er : r = l.drop (i + (ds.length + 1) + 1) := by
          have e : (c :: r).drop 1 = (l.drop (i + (ds.length + 1))).drop 1 := by rw [← hc, hrs, hd, List.length_cons]
          rw [List.drop_drop] at e
          simpa using e
        have le24 : dval ((d :: ds).take 3) ≤ 24 → dval ((d :: ds).take 3) < 2 ^ 10 := fun z => by omega
        generalize dval ((d :: ds).take 3) = t at ho le24 ⊢
        refine ⟨[c], rfl, Nat.le_refl 1, ?_⟩
        walk_at "rd"
        -- behind the first test
        refine r_iteNB (fun hs => ?_) (fun hs => ?_)
        · have hs' : isSg c = false := hs
          rw [hs', if_neg (by decide)] at ho
          walk_at "rd"
          refine r_iteN (fun h40 => ?_) (fun h40 => ?_)
          · have n40 : c ≠ 40 := fun z => h40 (by rw [z]; rfl)
            rw [if_neg n40] at ho
            walk_at "rd"
            refine r_mk (q.bad ho ?_)
            rw [List.length_cons]
            omega
          · have e40 : c = 40 := by injection h40
            subst e40
            rw [if_pos rfl] at ho
            walk_at "rd"
            refine r_ite (fun t2 => ?_) (fun t2 => ?_)
            · walk_at "rd"
              refine r_iteN (fun t24 => ?_) (fun t24 => ?_)
              · rw [if_neg (by omega)] at ho
                walk_at "rd"
                exact r_mk (q.bad ho (by rw [sl]; omega))
              · rw [if_pos (by omega)] at ho
                walk_at "rd"
                refine ⟨[40], rfl, Nat.le_refl 1, ?_⟩
                walk_at "rd"
                refine r_iteB (fun z => absurd (z.symm.trans hs) (by decide)) (fun _ => ?_)
                walk_at "rd"
                refine r_ite (fun hn6 => ?_) (fun hn6 => ?_)
                · have n0 : n = 0 := by omega
                  subst n0
                  walk_at "rd"
                  refine r_mk (q.bad ho ?_)
                  rw [List.length_cons]
                  omega
                · obtain ⟨m, rfl⟩ : ∃ m, n = m + 1 := ⟨n - 1, by omega⟩
                  have e1 : ((i + (d :: ds).length : Nat) : Int) + 1 = ((i + (ds.length + 1) + 1 : Nat) : Int) := by rw [List.length_cons]; omega
                  have e2 : (6 : Int) - ((m + 1 : Nat) : Int) + 1 = 6 - (m : Int) := by omega
                  have hm6 : decide (m = 6) = false := decide_eq_false (by omega)
                  walk_at "rd"
                  refine ⟨l, i + (ds.length + 1) + 1, by rw [e1, e2]; rfl, hl, by omega, ?_⟩
                  rw [← er, hm6]
                  have ho2 : rdItem (innerOf (m + 1)) (l.drop i) = match rdAt m false r with
                    | .error e => .error e
                    | .ok (r2, b, row) => .ok (r2.drop 1, t * b, kept (t * b) (rep t row)) := ho
                  cases ha : rdAt m false r with
                  | error e =>
                    rw [ha] at ho2
                    exact q.bad ho2 rfl
                  | ok g =>
                    obtain ⟨r2, b, row⟩ := g
                    rw [ha] at ho2
                    obtain ⟨Fi, ne⟩ := ok_at m false r _ ha
                    have ne2 : r2 ≠ [] := ne rfl
                    obtain ⟨k1, k2, k3, k4, k5⟩ := Fi.suf
                    have k4' : r2 = r.drop k1 := k4
                    have k5' : b ≤ 2 ^ (6 * k1) := k5
                    have rl : r2.length = r.length - k1 := by rw [k4', List.length_drop]
                    have r1 : 1 ≤ r2.length := by
                      cases r2 with
                      | nil => exact absurd rfl ne2
                      | cons a b => simp
                    have hmul : CMulW (t : Int) (b : Int) := wide_mul (a := 10) (b := 13000) (by rw [Int.natAbs_natCast]; omega) (by rw [Int.natAbs_natCast]; exact big_lt (by omega) k5') (by decide) (by decide) (by decide)
                    have rw24 : row.length ≤ 24 := by
                      rcases Nat.lt_or_ge 24 b with z | z
                      · rw [show row = [] from Fi.non z]; exact Nat.zero_le _
                      · rw [show row.length = b from (Fi.row z).1]; exact z
                    have hrep : row.length * t ≤ 1000 := Nat.le_trans (Nat.mul_le_mul rw24 (show t ≤ 24 by omega)) (by decide)
                    intro p H1 ex1 hp
                    walk_at "rd"
                    refine r_gtup3 rfl (Evl.st_of hp) ?_
                    walk_at "rd"
                    refine r_repS (by omega) (by omega) (small (by rw [Int.toNat_natCast]; exact Nat.le_trans hrep (by decide))) ?_
                    walk_at "rd"
                    refine ⟨t * b, rep t row, by rw [Int.natCast_mul, Int.toNat_natCast]; rfl, ?_⟩
                    walk_at "rd"
                    refine ⟨small (by show 3 ≤ 1000000; decide), fun p2 hp2 => ?_⟩
                    refine q.good ho2 (ex1.trans (Evl.Ex.new hp2)) upd_same ?_ (by rw [Int.natCast_mul]) rfl
                    show ((l.length - r2.length : Nat) : Int) + 1 = ((l.length - (r2.drop 1).length : Nat) : Int)
                    rw [List.length_drop]
                    omega
            · rw [if_neg (by omega)] at ho
              walk_at "rd"
              exact r_mk (q.bad ho (by rw [sl]; omega))
        · have hs' : isSg c = true := hs
          rw [if_pos hs'] at ho
          walk_at "rd"
          refine r_ite (fun t2 => ?_) (fun t2 => ?_)
          · walk_at "rd"
            refine r_iteN (fun t24 => ?_) (fun t24 => ?_)
            · rw [if_neg (by omega)] at ho
              walk_at "rd"
              exact r_mk (q.bad ho (by rw [sl]; omega))
            · rw [if_pos (by omega)] at ho
              walk_at "rd"
              refine ⟨[c], rfl, Nat.le_refl 1, ?_⟩
              walk_at "rd"
              refine r_iteB (fun _ => ?_) (fun z => absurd (z.symm.trans hs) (by decide))
              walk_at "rd"
              refine r_repS (by omega) (by omega) (small (by rw [Int.toNat_natCast]; show 1 * t ≤ _; omega)) ?_
              walk_at "rd"
              refine ⟨small (by show 3 ≤ 1000000; decide), fun p hp => ?_⟩
              refine q.good ho (Evl.Ex.new hp) upd_same ?_ rfl ?_
              · show ((i + (d :: ds).length : Nat) : Int) + 1 = ((l.length - r.length : Nat) : Int)
                rw [List.length_cons]
                omega
              · rw [Int.toNat_natCast]
                exact flat_one t c
          · rw [if_neg (by omega)] at ho
            walk_at "rd"
            exact r_mk (q.bad ho (by rw [sl]; omega))
end
end Fk

set_option Elab.async false
set_option linter.all false
set_option maxRecDepth 100000
set_option maxHeartbeats 4000000
namespace Fk
open PySem PySem.Spec PyProof.Rows L2 Fg Rt
local macro_rules | `(tactic| walk_at "rd1") => `(tactic| first
  | with_reducible refine r_seq ?_
  | with_reducible refine r_asg ?_
  | with_reducible refine r_gname ?_
  | with_reducible refine r_gsub ?_
  | with_reducible refine r_ret ?_
  | with_reducible refine r_retN ?_
  | with_reducible refine r_next ?_
  | with_reducible refine r_drop ?_
  | with_reducible refine r_ifS ?_
  | with_reducible refine r_if ?_
  | with_reducible refine r_par ?_
  | with_reducible refine r_pair ?_
  | with_reducible refine r_test ?_
  | with_reducible refine r_tB ?_
  | with_reducible refine r_not ?_
  | with_reducible refine r_and ?_
  | with_reducible refine r_or ?_
  | with_reducible refine r_andV ?_
  | with_reducible refine r_orV ?_
  | with_reducible refine r_notV ?_
  | with_reducible refine r_nil ?_
  | with_reducible refine r_cons ?_
  | with_reducible refine r_call ?_
  | with_reducible refine r_callS ?_
  | with_reducible refine r_cb ?_
  | with_reducible refine r_then ?_
  | with_reducible refine r_tup ?_
  | with_reducible refine r_lst ?_
  | with_reducible refine r_sl ?_
  | with_reducible refine r_nopart ?_
  | with_reducible refine r_part ?_
  | with_reducible refine r_lcR1 ?_
  | with_reducible refine r_lcR2 ?_
  | with_reducible refine r_lcL ?_
  | with_reducible refine r_lcT ?_
  | with_reducible refine r_forR1 ?_
  | with_reducible refine r_forR2 ?_
  | with_reducible refine r_forL ?_
  | with_reducible refine r_forT ?_
  | with_reducible refine r_forE ?_
  | with_reducible refine r_strE ?_
  | ((with_reducible refine r_rng1 ?hc ?_); (case hc => omega))
  | ((with_reducible refine r_rng2 ?hc ?_); (case hc => omega))
  | ((with_reducible refine' r_refL ?hc ?_); (case hc => first | assumption | exact Evl.sq_of (by assumption)))
  | ((with_reducible refine' r_refT ?hc ?_); (case hc => first | assumption | exact Evl.st_of (by assumption)))
  | with_reducible refine r_op ?_
  | with_reducible refine r_un ?_
  | with_reducible refine r_chain ?_
  | ((with_reducible refine' r_var ?hv ?_); (case hv => exact rfl))
  | with_reducible refine r_cS ?_
  | with_reducible refine r_cs ?_
  | with_reducible refine r_c ?_
  | with_reducible refine r_yes ?_
  | with_reducible refine r_bm ?_
  | with_reducible refine r_bl ?_
  | with_reducible refine r_in ?_
  | with_reducible refine r_ty ?_
  | with_reducible refine r_I0 ?_
  | ((with_reducible refine r_I ?hc ?_); (case hc => first | assumption | (show (0 : Int) < _; decide) | exact Or.inr ⟨by decide, by decide⟩ | exact Or.inr ⟨by omega, by omega⟩ | exact Or.inl ⟨by decide, by decide⟩ | exact (show CDivW _ _ from ⟨by decide, by decide +kernel⟩) | exact (show CPowW _ _ from ⟨by decide, by decide +kernel⟩) | (show (0 : Int) < _; omega)))
  | with_reducible refine r_U ?_
  | with_reducible refine r_eqI ?_
  | with_reducible refine r_neI ?_
  | with_reducible refine r_eqS ?_
  | with_reducible refine r_neS ?_
  | with_reducible refine r_eqB ?_
  | with_reducible refine r_neB ?_
  | with_reducible refine r_niS ?_
  | with_reducible refine r_inSS ?_
  | ((with_reducible refine r_slSS ?hc ?_); (case hc => first | exact small (by omega) | exact small (by simp; omega)))
  | ((with_reducible refine r_lenS ?hc ?_); (case hc => first | exact small (by omega) | exact small (by simp; omega)))
  | ((with_reducible refine' r_lenL ?hc ?_); (case hc => first | assumption | exact Evl.sq_of (by assumption)))
  | ((with_reducible refine' r_lenT ?hc ?_); (case hc => first | assumption | exact Evl.st_of (by assumption)))
  | ((with_reducible refine' r_ixL ?h1 ?h2 ?h3 ?_); (case h1 => first | assumption | exact Evl.sq_of (by assumption) | exact Evl.sq_of upd_same); (case h2 => first | decide | omega); (case h3 => first | exact rfl | assumption))
  | ((with_reducible refine' r_ixT ?h1 ?h2 ?h3 ?_); (case h1 => first | assumption | exact Evl.st_of (by assumption)); (case h2 => first | decide | omega); (case h3 => first | exact rfl | assumption))
  | with_reducible refine r_T ?_
  | with_reducible refine r_notNn ?_
  | with_reducible refine r_notN_int ?_
  | with_reducible refine r_notN_str ?_
  | with_reducible refine r_notN_ref ?_
  | with_reducible refine r_isNn ?_
  | with_reducible refine r_isN_int ?_
  | with_reducible refine r_isN_str ?_
  | with_reducible refine r_isN_ref ?_
  | ((with_reducible refine' r_isi ?ht ?hk ?_); (case ht => first | exact .base (.int _) | exact .base (.bl _) | exact .base (.str _) | exact .base .non | exact .base (.lst (by assumption)) | exact .base (.tup (by assumption))); (case hk => first | exact kb_int_int | exact kb_int_bool | exact kb_int_str | exact kb_int_list | exact kb_int_tuple | exact kb_bool_int | exact kb_bool_bool | exact kb_bool_str | exact kb_bool_list | exact kb_bool_tuple | exact kb_str_int | exact kb_str_bool | exact kb_str_str | exact kb_str_list | exact kb_str_tuple | exact kb_NoneType_int | exact kb_NoneType_bool | exact kb_NoneType_str | exact kb_NoneType_list | exact kb_NoneType_tuple | exact kb_list_int | exact kb_list_bool | exact kb_list_str | exact kb_list_list | exact kb_list_tuple | exact kb_tuple_int | exact kb_tuple_bool | exact kb_tuple_str | exact kb_tuple_list | exact kb_tuple_tuple))
  | with_reducible refine r_F ?_
  | with_reducible refine r_nT ?_
  | with_reducible refine r_nF ?_
  | with_reducible refine r_mko ?_
  | with_reducible refine r_xf ?_
  | ((with_reducible refine' r_sum ?hc ?_); (case hc => first | assumption | exact Evl.sq_of (by assumption)))
  | ((with_reducible refine' r_setL ?h1 ?h2 ?h3 ?_); (case h1 => first | assumption | exact upd_same); (case h2 => first | decide | omega); (case h3 => first | (show _ < _; decide) | (simp; done)))
  | with_reducible refine r_int ?_
  | with_reducible refine r_abs ?_)
local macro_rules | `(tactic| walk_at "rd") => `(tactic| repeat (walk_at "rd1"))

section
variable {P : Program} {w : World} {K : PySem.W.Frag} {mg : Str → Option Value} {base : Heap}
def spPart (C : Addr) (n : Nat) : Sp := fun vs H Q E => ∃ (l : List Nat) (i : Nat), vs = [.str (S l), .int (i : Int), .int (6 - (n : Int))] ∧ n ≤ 6 ∧ l.length ≤ 2000 ∧ i ≤ l.length ∧ OutR C l (rdPart (rdItem (innerOf n)) (l.drop i)) H Q E
theorem suf_pos {l s2 : List Nat} {j b : Nat} {r : List Nat} (F : Fine (l.drop j) (s2, b, r)) (hj : j ≤ l.length) : l.drop (l.length - s2.length) = s2 ∧ l.length - s2.length ≤ l.length ∧ j < l.length - s2.length := by
  obtain ⟨k, k1, k2, k3, _⟩ := F.suf
  have k3' : s2 = (l.drop j).drop k := k3
  rw [List.length_drop] at k2
  have e : s2.length = l.length - j - k := by rw [k3', List.length_drop, List.length_drop]
  refine ⟨?_, by omega, by omega⟩
  rw [e, show l.length - (l.length - j - k) = j + k by omega, k3', List.drop_drop]
theorem take_one (c : Nat) (r : List Nat) : (c :: r).take 1 = [c] := rfl
theorem items_stop {item : List Nat → Res} {s : List Nat} (h : goes s = false) : ∀ (f b : Nat) (r : List Nat), rdItems item f s b r = .ok (s, b, r)
  | 0, b, r => rfl
  | f + 1, b, r => by
    unfold rdItems
    rw [h]
    rfl
theorem items_go {item : List Nat → Res} {s : List Nat} {f b : Nat} {r : List Nat} (h : goes s = true) : rdItems item (f + 1) s b r = match item s with
  | .error e => .error e
  | .ok (s2, m, g) => rdItems item f s2 (b + m) (kept (b + m) (r ++ g)) := by
  show (if goes s = true then _ else _) = _
  rw [if_pos h]
  all_goals (cases item s <;> rfl)
theorem whl_le {s : List Nat} {b w : Nat} (h : whl s b = some w) : b ≤ w ∧ w ≤ 24 := by
  unfold whl at h
  split at h
  · cases h
  · split at h
    · cases h
    · split at h
      · cases h
        assumption
      · cases h
theorem row24 {b : Nat} {r : List Nat} (h : b ≤ 24 → r.length = b ∧ ∀ c ∈ r, isSg c = true) (k : 24 < b → r = []) : r.length ≤ 24 := by
  rcases Nat.lt_or_ge 24 b with z | z
  · rw [k z]; exact Nat.zero_le _
  · rw [(h z).1]; exact z
abbrev s_read_part : Stmt := topS 22
abbrev N_read_part : List Str := ["text", "at", "deep", "char", "beats", "row", "whole", "more", "signs"]
theorem sc_read_part : FnScope ["text", "at", "deep", "char", "beats", "row", "whole", "more", "signs"] ["text", "at", "deep"] (defScope s_read_part) := ⟨rfl, rfl, rfl, by decide +kernel, rfl, by decide +kernel, by decide +kernel⟩
theorem can_read_part (T : Bi mg) (F : Defd K mg "read_part" s_read_part ["text", "at", "deep"]) {n k : Nat} (hk : 3 ≤ k) (c_DIGITS : ∃ u, mg "DIGITS" = some u ∧ RelV (.str (S DGL)) u) (c_DARK : ∃ u, mg "DARK" = some u ∧ RelV (.str (S [46])) u) {A_BadText : Addr} (E_BadText : Err P w K mg base "BadText" A_BadText "at") (C_char_at : Can P w K mg base L2.CX0 1 "char_at" ["text", "at"] spChar) (C_is_sign : Can P w K mg base L2.CX0 1 "is_sign" ["thing"] spIsSign) (C_kept : Can P w K mg base L2.CX0 1 "kept" ["beats", "row"] spKept) (C_read_whole : Can P w K mg base (L2.CX P w) 4 "read_whole" ["text", "at", "beats"] (spWhole A_BadText)) (C_read_item : Can P w K mg base (L2.CX P w) (k + 1) "read_item" ["text", "at", "deep"] (spItem A_BadText n)) : Can P w K mg base (L2.CX P w) (k + 2) "read_part" ["text", "at", "deep"] (spPart A_BadText n) := by
  refine canX F sc_read_part (fun vs H Q E h => ?_) (fun f cdv A outer s H vs Q E hr h => ⟨_, (pss_cons (ps_asg (pe_tup (pa_cons pe_int (pa_cons (pe_strL [] (by decide +kernel)) pa_nil))) (pg_tup rfl (pgs_cons (pg_name (i := 4) sc_read_part.nd rfl (by first | exact Or.inl rfl | exact Or.inr rfl)) (pgs_cons (pg_name (i := 5) sc_read_part.nd rfl (by first | exact Or.inl rfl | exact Or.inr rfl)) pgs_nil))))
  (pss_cons (ps_set (i := 3) sc_read_part.nd rfl (by first | exact Or.inl rfl | exact Or.inr rfl) (pe_can C_char_at hr (by omega) rfl (pa_cons (pv 0) (pa_cons (pv 1) pa_nil))))
  (Evl.pss_cut (ps_while PassesOwn.leaving (PW.pt (pw_or (pt_val (pe_can C_is_sign hr (by omega) rfl (pa_cons (pv 3) pa_nil))) (pw_or1 (PW.pt (pw_and (pt_cmpR op_ne (pv 3) (pe_strL [] (by decide +kernel)) (nomark _)) (pw_and1 (pt_cmpR op_inSS (pv 3) (C8.pe_gc rfl c_DIGITS) (by rfl)))))))) (pss_cons (ps_asg (pe_canX C_read_item hr (by omega) rfl (passes_call (takes_of rfl rfl rfl rfl) (fun _ _ _ _ h => h)) (pa_cons (pv 0) (pa_cons (pv 1) (pa_cons (pv 2) pa_nil)))) (pg_tup rfl (pgs_cons (pg_name (i := 1) sc_read_part.nd rfl (by first | exact Or.inl rfl | exact Or.inr rfl)) (pgs_cons (pg_name (i := 7) sc_read_part.nd rfl (by first | exact Or.inl rfl | exact Or.inr rfl)) (pgs_cons (pg_name (i := 8) sc_read_part.nd rfl (by first | exact Or.inl rfl | exact Or.inr rfl)) pgs_nil)))))
  (pss_cons (ps_set (i := 4) sc_read_part.nd rfl (by first | exact Or.inl rfl | exact Or.inr rfl) (pe_op op_add (pv 4) (pv 7)))
  (pss_cons (ps_set (i := 5) sc_read_part.nd rfl (by first | exact Or.inl rfl | exact Or.inr rfl) (pe_can C_kept hr (by omega) rfl (pa_cons (pv 4) (pa_cons (pe_op op_catS (pv 5) (pv 8)) pa_nil))))
  (pss_one (ps_set (i := 3) sc_read_part.nd rfl (by first | exact Or.inl rfl | exact Or.inr rfl) (pe_can C_char_at hr (by omega) rfl (pa_cons (pv 0) (pa_cons (pv 1) pa_nil)))))))))
  (pss_cons (ps_if (pt_cmpR op_eq (pv 4) pe_int (nomark _)) (pss_one (ps_raise rfl (takes_of rfl rfl rfl rfl) (pmk_err E_BadText hr (by omega) rfl (pa_cons (pv 1) pa_nil)))) pss_nil)
  (pss_cons (ps_if (pt_cmpR op_ne (pv 3) (pe_strL [64] (by decide +kernel)) (nomark _)) (pss_one (ps_ret (pe_tup (pa_cons (pv 1) (pa_cons (pv 4) (pa_cons (pv 5) pa_nil)))))) pss_nil)
  (pss_cons (ps_asg (pe_canX C_read_whole hr (by omega) rfl (passes_call (takes_of rfl rfl rfl rfl) (fun _ _ _ _ h => h)) (pa_cons (pv 0) (pa_cons (pe_op op_add (pv 1) pe_int) (pa_cons (pv 4) pa_nil)))) (pg_tup rfl (pgs_cons (pg_name (i := 1) sc_read_part.nd rfl (by first | exact Or.inl rfl | exact Or.inr rfl)) (pgs_cons (pg_name (i := 6) sc_read_part.nd rfl (by first | exact Or.inl rfl | exact Or.inr rfl)) pgs_nil))))
  (pss_one (ps_ret (pe_tup (pa_cons (pv 1) (pa_cons (pv 6) (pa_cons (pe_op op_catS (pv 5) (pe_op op_repS (C8.pe_gc rfl c_DARK) (pe_op op_sub (pv 6) (pv 4)))) pa_nil)))))))))))), ?_⟩)
  · obtain ⟨_, _, rfl, _⟩ := h
    rfl
  · obtain ⟨l, i, rfl, hn, hl, hi, q⟩ := h
    walk_at "rd"
    refine ⟨small (by show 2 ≤ 1000000; decide), fun p0 hp0 => ?_⟩
    have ex0 := Evl.Ex.new (o := .tup [.int 0, .str (S [])]) hp0
    refine r_gtup2 (Evl.st_of upd_same) ?_
    generalize upd H p0 (.tup [.int 0, .str (S [])]) = H0 at ex0 ⊢
    walk_at "rd"
    refine ⟨l, i, rfl, by omega, ?_⟩
    walk_at "rd"
    replace q := q.ex ex0
    clear ex0 hp0
    generalize hit : rdItem (innerOf n) = item at q
    have oki : Ok item (fun s => goes s = true) := by rw [← hit]; exact ok_item (inner_ok n)
    refine r_cut (Mid := fun σ' H' => ∃ (j b : Nat) (r : List Nat) (o6 o7 o8 : Option V), σ' = [some (.str (S l)), some (.int (j : Int)), some (.int (6 - (n : Int))), some (.str (S ((l.drop j).take 1))), some (.int (b : Int)), some (.str (S r)), o6, o7, o8] ∧ Ex H0 H' ∧ j ≤ l.length ∧ Far (l.drop i) (l.drop j) b r ∧ rdItems item (l.drop i).length (l.drop i) 0 [] = .ok (l.drop j, b, r)) ?_ ?_
    · let WW : Nat → L2.St → Hp → Prop := fun m σ' H' => ∃ (j b f : Nat) (r : List Nat) (o6 o7 o8 : Option V), σ' = [some (.str (S l)), some (.int (j : Int)), some (.int (6 - (n : Int))), some (.str (S ((l.drop j).take 1))), some (.int (b : Int)), some (.str (S r)), o6, o7, o8] ∧ Ex H0 H' ∧ j ≤ l.length ∧ m + j = l.length ∧ l.length - j ≤ f ∧ Far (l.drop i) (l.drop j) b r ∧ rdItems item (l.drop i).length (l.drop i) 0 [] = rdItems item f (l.drop j) b r
      refine ⟨WW, ⟨l.length - i, i, 0, (l.drop i).length, [], _, _, _, rfl, Evl.Ex.refl _, hi, by omega, by rw [List.length_drop]; omega, far_start _, rfl⟩, fun m σ' H1 hW => ?_⟩
      obtain ⟨j, b, f', r, o6, o7, o8, rfl, ex1, hj, hm, hf, Fa, hT⟩ := hW
      have r24 : r.length ≤ 24 := row24 Fa.row Fa.non
      have jl : (l.drop j).length = l.length - j := List.length_drop
      have stop : goes (l.drop j) = false → ∃ (j2 b2 : Nat) (r2 : List Nat) (p6 p7 p8 : Option V), [some (.str (S l)), some (.int (j : Int)), some (.int (6 - (n : Int))), some (.str (S ((l.drop j).take 1))), some (.int (b : Int)), some (.str (S r)), o6, o7, o8] = [some (.str (S l)), some (.int (j2 : Int)), some (.int (6 - (n : Int))), some (.str (S ((l.drop j2).take 1))), some (.int (b2 : Int)), some (.str (S r2)), p6, p7, p8] ∧ Ex H0 H1 ∧ j2 ≤ l.length ∧ Far (l.drop i) (l.drop j2) b2 r2 ∧ rdItems item (l.drop i).length (l.drop i) 0 [] = .ok (l.drop j2, b2, r2) := fun hg =>
        ⟨j, b, r, _, _, _, rfl, ex1, hj, Fa, by rw [hT, items_stop hg]⟩
      walk_at "rd"
      cases hs : l.drop j with
      | nil =>
        rw [hs] at stop
        refine ⟨[], rfl, by decide, ?_⟩
        walk_at "rd"
        refine r_iteN (fun z => absurd rfl z) (fun _ => ?_)
        walk_at "rd"
        exact stop rfl
      | cons c rest =>
        have jp : 1 ≤ l.length - j := by
          have e := jl
          rw [hs, List.length_cons] at e
          omega
        refine ⟨[c], rfl, Nat.le_refl 1, ?_⟩
        walk_at "rd"
        refine r_iteB (fun hc => ?_) (fun hc => ?_)
        · have hg : goes (l.drop j) = true := by
            rw [hs]
            show (isSg c || isDig c) = true
            rw [show isSg c = true from hc]
            rfl
          walk_at "rd"
          obtain ⟨f2, rfl⟩ : ∃ x, f' = x + 1 := ⟨f' - 1, by omega⟩
          refine ⟨fun σ2 H2 => ∃ m', m' < m ∧ WW m' σ2 H2, fun σ2 H2 z => z, ?_⟩
          walk_at "rd"
          refine ⟨l, j, rfl, hn, hl, hj, hg, ?_⟩
          rw [hit]
          rw [items_go hg] at hT
          cases hx : item (l.drop j) with
          | error e =>
            rw [hx] at hT
            exact (q.ex ex1).bad (e := e) (by unfold rdPart; rw [hT]) rfl
          | ok g0 =>
            obtain ⟨s2, m2, g⟩ := g0
            rw [hx] at hT
            have G := oki _ _ hg hx
            obtain ⟨d1, d2, d3⟩ := suf_pos G hj
            obtain ⟨Fb, _⟩ := far_step Fa G
            have g24 : g.length ≤ 24 := row24 (fun z => G.row z) (fun z => G.non z)
            intro p H2 ex2 hp
            walk_at "rd"
            refine r_gtup3 rfl (Evl.st_of hp) ?_
            walk_at "rd"
            refine r_catS (small (by show r.length + g.length ≤ 1000000; omega)) ?_
            walk_at "rd"
            refine ⟨b + m2, r ++ g, by rw [Int.natCast_add]; rfl, ?_⟩
            walk_at "rd"
            refine ⟨l, l.length - s2.length, rfl, by omega, ?_⟩
            walk_at "rd"
            refine ⟨l.length - (l.length - s2.length), by omega, l.length - s2.length, b + m2, f2, kept (b + m2) (r ++ g), o6, some (.int (m2 : Int)), some (.str (S g)), ?_, ex1.trans ex2, d2, by omega, by omega, by rw [d1]; exact Fb, by rw [d1]; exact hT⟩
            rw [Int.natCast_add]
            rfl
        · walk_at "rd"
          refine r_iteN (fun _ => ?_) (fun z => absurd z (by simp))
          rw [take_one]
          walk_at "rd"
          rw [dgl]
          refine r_iteB (fun hd => ?_) (fun hd => ?_)
          · have hg : goes (l.drop j) = true := by
              rw [hs]
              show (isSg c || isDig c) = true
              rw [hd, Bool.or_true]
            walk_at "rd"
            obtain ⟨f2, rfl⟩ : ∃ x, f' = x + 1 := ⟨f' - 1, by omega⟩
            refine ⟨fun σ2 H2 => ∃ m', m' < m ∧ WW m' σ2 H2, fun σ2 H2 z => z, ?_⟩
            walk_at "rd"
            refine ⟨l, j, rfl, hn, hl, hj, hg, ?_⟩
            rw [hit]
            rw [items_go hg] at hT
            cases hx : item (l.drop j) with
            | error e =>
              rw [hx] at hT
              exact (q.ex ex1).bad (e := e) (by unfold rdPart; rw [hT]) rfl
            | ok g0 =>
              obtain ⟨s2, m2, g⟩ := g0
              rw [hx] at hT
              have G := oki _ _ hg hx
              obtain ⟨d1, d2, d3⟩ := suf_pos G hj
              obtain ⟨Fb, _⟩ := far_step Fa G
              have g24 : g.length ≤ 24 := row24 (fun z => G.row z) (fun z => G.non z)
              intro p H2 ex2 hp
              walk_at "rd"
              refine r_gtup3 rfl (Evl.st_of hp) ?_
              walk_at "rd"
              refine r_catS (small (by show r.length + g.length ≤ 1000000; omega)) ?_
              walk_at "rd"
              refine ⟨b + m2, r ++ g, by rw [Int.natCast_add]; rfl, ?_⟩
              walk_at "rd"
              refine ⟨l, l.length - s2.length, rfl, by omega, ?_⟩
              walk_at "rd"
              refine ⟨l.length - (l.length - s2.length), by omega, l.length - s2.length, b + m2, f2, kept (b + m2) (r ++ g), o6, some (.int (m2 : Int)), some (.str (S g)), ?_, ex1.trans ex2, d2, by omega, by omega, by rw [d1]; exact Fb, by rw [d1]; exact hT⟩
              rw [Int.natCast_add]
              rfl
          · walk_at "rd"
            rw [hs] at stop
            exact stop (by
              show (isSg c || isDig c) = false
              rw [show isSg c = false from hc, hd]
              rfl)
    · intro σ' H1 hM
      obtain ⟨j, b, r, o6, o7, o8, rfl, ex1, hj, Fa, hT⟩ := hM
      have jl : (l.drop j).length = l.length - j := List.length_drop
      have r24 : r.length ≤ 24 := row24 Fa.row Fa.non
      replace q := q.ex ex1
      walk_at "rd"
      refine r_ite (fun b0 => ?_) (fun b0 => ?_)
      · have b0' : b = 0 := by omega
        walk_at "rd"
        refine r_mk (q.bad (e := (l.drop j).length) ?_ (by rw [jl]; omega))
        unfold rdPart
        rw [hT]
        show (if b = 0 then _ else _) = _
        rw [if_pos b0']
      · have b0' : b ≠ 0 := fun z => b0 (by rw [z]; rfl)
        have hP : rdPart item (l.drop i) = match l.drop j with
          | [] => .ok (l.drop j, b, r)
          | c :: s3 => if c = 64 then rdWhole s3 b r else .ok (l.drop j, b, r) := by
          unfold rdPart
          rw [hT]
          show (if b = 0 then _ else _) = _
          rw [if_neg b0']
          all_goals (cases l.drop j <;> rfl)
        walk_at "rd"
        refine r_iteN (fun h64 => ?_) (fun h64 => ?_)
        · have ho : rdPart item (l.drop i) = .ok (l.drop j, b, r) := by
            rw [hP]
            cases hs : l.drop j with
            | nil => rfl
            | cons c s3 =>
              show (if c = 64 then _ else _) = _
              rw [if_neg (fun z => h64 (by rw [hs, z]; rfl))]
          walk_at "rd"
          refine ⟨small (by show 3 ≤ 1000000; decide), fun p hp => ?_⟩
          refine q.good ho (Evl.Ex.new hp) upd_same ?_ rfl rfl
          show (j : Int) = ((l.length - (l.drop j).length : Nat) : Int)
          rw [jl]
          omega
        · cases hs : l.drop j with
          | nil => rw [hs] at h64; cases h64
          | cons c s3 =>
            have c64 : c = 64 := by rw [hs] at h64; injection h64
            subst c64
            have e3 : l.drop (j + 1) = s3 := by
              have e : (l.drop j).drop 1 = (64 :: s3).drop 1 := by rw [hs]
              rw [List.drop_drop] at e
              exact e
            have l3 : s3.length + 1 = l.length - j := by rw [← jl, hs, List.length_cons]
            rw [hs] at hP
            have ho : rdPart item (l.drop i) = match whl s3 b with
              | none => .error s3.length
              | some w => .ok (rsOf s3, w, r ++ List.replicate (w - b) 46) := by
              rw [hP]
              refine (show _ = rdWhole s3 b r from rfl).trans ?_
              rw [rdWhole_eq]
              all_goals (cases whl s3 b <;> rfl)
            walk_at "rd"
            refine ⟨l, j + 1, b, by rw [Int.natCast_add]; rfl, by omega, fun hw => ?_, fun w p H2 hw ex2 hp => ?_⟩
            · rw [e3] at hw
              rw [hw] at ho
              exact q.bad ho (by omega)
            · rw [e3] at hw hp
              rw [hw] at ho
              obtain ⟨w1, w2⟩ := whl_le hw
              have lr := len_rs s3
              walk_at "rd"
              refine r_gtup2 (Evl.st_of hp) ?_
              walk_at "rd"
              refine r_repS (by omega) (by omega) (small (by show 1 * _ ≤ 1000000; omega)) ?_
              rw [show ((w : Int) - (b : Int)).toNat = w - b by omega, flat_one]
              refine r_catS (small (by rw [List.length_replicate]; omega)) ?_
              walk_at "rd"
              refine ⟨small (by show 3 ≤ 1000000; decide), fun p2 hp2 => ?_⟩
              refine q.good ho (ex2.trans (Evl.Ex.new hp2)) upd_same ?_ rfl rfl
              show ((j + 1 + (dsOf s3).length : Nat) : Int) = ((l.length - (rsOf s3).length : Nat) : Int)
              omega
end
end Fk

set_option Elab.async false
set_option linter.all false
set_option maxRecDepth 100000
set_option maxHeartbeats 4000000
namespace Fk
open PySem PySem.Spec PyProof.Rows L2 Fg Rt
local macro_rules | `(tactic| walk_at "rd1") => `(tactic| first
  | with_reducible refine r_seq ?_
  | with_reducible refine r_asg ?_
  | with_reducible refine r_gname ?_
  | with_reducible refine r_gsub ?_
  | with_reducible refine r_ret ?_
  | with_reducible refine r_retN ?_
  | with_reducible refine r_next ?_
  | with_reducible refine r_drop ?_
  | with_reducible refine r_ifS ?_
  | with_reducible refine r_if ?_
  | with_reducible refine r_par ?_
  | with_reducible refine r_pair ?_
  | with_reducible refine r_test ?_
  | with_reducible refine r_tB ?_
  | with_reducible refine r_not ?_
  | with_reducible refine r_and ?_
  | with_reducible refine r_or ?_
  | with_reducible refine r_andV ?_
  | with_reducible refine r_orV ?_
  | with_reducible refine r_notV ?_
  | with_reducible refine r_nil ?_
  | with_reducible refine r_cons ?_
  | with_reducible refine r_call ?_
  | with_reducible refine r_callS ?_
  | with_reducible refine r_cb ?_
  | with_reducible refine r_then ?_
  | with_reducible refine r_tup ?_
  | with_reducible refine r_lst ?_
  | with_reducible refine r_sl ?_
  | with_reducible refine r_nopart ?_
  | with_reducible refine r_part ?_
  | with_reducible refine r_lcR1 ?_
  | with_reducible refine r_lcR2 ?_
  | with_reducible refine r_lcL ?_
  | with_reducible refine r_lcT ?_
  | with_reducible refine r_forR1 ?_
  | with_reducible refine r_forR2 ?_
  | with_reducible refine r_forL ?_
  | with_reducible refine r_forT ?_
  | with_reducible refine r_forE ?_
  | with_reducible refine r_strE ?_
  | ((with_reducible refine r_rng1 ?hc ?_); (case hc => omega))
  | ((with_reducible refine r_rng2 ?hc ?_); (case hc => omega))
  | ((with_reducible refine' r_refL ?hc ?_); (case hc => first | assumption | exact Evl.sq_of (by assumption)))
  | ((with_reducible refine' r_refT ?hc ?_); (case hc => first | assumption | exact Evl.st_of (by assumption)))
  | with_reducible refine r_op ?_
  | with_reducible refine r_un ?_
  | with_reducible refine r_chain ?_
  | ((with_reducible refine' r_var ?hv ?_); (case hv => exact rfl))
  | with_reducible refine r_cS ?_
  | with_reducible refine r_cs ?_
  | with_reducible refine r_c ?_
  | with_reducible refine r_yes ?_
  | with_reducible refine r_bm ?_
  | with_reducible refine r_bl ?_
  | with_reducible refine r_in ?_
  | with_reducible refine r_ty ?_
  | with_reducible refine r_I0 ?_
  | ((with_reducible refine r_I ?hc ?_); (case hc => first | assumption | (show (0 : Int) < _; decide) | exact Or.inr ⟨by decide, by decide⟩ | exact Or.inr ⟨by omega, by omega⟩ | exact Or.inl ⟨by decide, by decide⟩ | exact (show CDivW _ _ from ⟨by decide, by decide +kernel⟩) | exact (show CPowW _ _ from ⟨by decide, by decide +kernel⟩) | (show (0 : Int) < _; omega)))
  | with_reducible refine r_U ?_
  | with_reducible refine r_eqI ?_
  | with_reducible refine r_neI ?_
  | with_reducible refine r_eqS ?_
  | with_reducible refine r_neS ?_
  | with_reducible refine r_eqB ?_
  | with_reducible refine r_neB ?_
  | with_reducible refine r_niS ?_
  | with_reducible refine r_inSS ?_
  | ((with_reducible refine r_slSS ?hc ?_); (case hc => first | exact small (by omega) | exact small (by simp; omega)))
  | ((with_reducible refine r_lenS ?hc ?_); (case hc => first | exact small (by omega) | exact small (by simp; omega)))
  | ((with_reducible refine' r_lenL ?hc ?_); (case hc => first | assumption | exact Evl.sq_of (by assumption)))
  | ((with_reducible refine' r_lenT ?hc ?_); (case hc => first | assumption | exact Evl.st_of (by assumption)))
  | ((with_reducible refine' r_ixL ?h1 ?h2 ?h3 ?_); (case h1 => first | assumption | exact Evl.sq_of (by assumption) | exact Evl.sq_of upd_same); (case h2 => first | decide | omega); (case h3 => first | exact rfl | assumption))
  | ((with_reducible refine' r_ixT ?h1 ?h2 ?h3 ?_); (case h1 => first | assumption | exact Evl.st_of (by assumption)); (case h2 => first | decide | omega); (case h3 => first | exact rfl | assumption))
  | with_reducible refine r_T ?_
  | with_reducible refine r_notNn ?_
  | with_reducible refine r_notN_int ?_
  | with_reducible refine r_notN_str ?_
  | with_reducible refine r_notN_ref ?_
  | with_reducible refine r_isNn ?_
  | with_reducible refine r_isN_int ?_
  | with_reducible refine r_isN_str ?_
  | with_reducible refine r_isN_ref ?_
  | ((with_reducible refine' r_isi ?ht ?hk ?_); (case ht => first | exact .base (.int _) | exact .base (.bl _) | exact .base (.str _) | exact .base .non | exact .base (.lst (by assumption)) | exact .base (.tup (by assumption))); (case hk => first | exact kb_int_int | exact kb_int_bool | exact kb_int_str | exact kb_int_list | exact kb_int_tuple | exact kb_bool_int | exact kb_bool_bool | exact kb_bool_str | exact kb_bool_list | exact kb_bool_tuple | exact kb_str_int | exact kb_str_bool | exact kb_str_str | exact kb_str_list | exact kb_str_tuple | exact kb_NoneType_int | exact kb_NoneType_bool | exact kb_NoneType_str | exact kb_NoneType_list | exact kb_NoneType_tuple | exact kb_list_int | exact kb_list_bool | exact kb_list_str | exact kb_list_list | exact kb_list_tuple | exact kb_tuple_int | exact kb_tuple_bool | exact kb_tuple_str | exact kb_tuple_list | exact kb_tuple_tuple))
  | with_reducible refine r_F ?_
  | with_reducible refine r_nT ?_
  | with_reducible refine r_nF ?_
  | with_reducible refine r_mko ?_
  | with_reducible refine r_xf ?_
  | ((with_reducible refine' r_sum ?hc ?_); (case hc => first | assumption | exact Evl.sq_of (by assumption)))
  | ((with_reducible refine' r_setL ?h1 ?h2 ?h3 ?_); (case h1 => first | assumption | exact upd_same); (case h2 => first | decide | omega); (case h3 => first | (show _ < _; decide) | (simp; done)))
  | with_reducible refine r_int ?_
  | with_reducible refine r_abs ?_)
local macro_rules | `(tactic| walk_at "rd") => `(tactic| repeat (walk_at "rd1"))

section
variable {P : Program} {w : World} {K : PySem.W.Frag} {mg : Str → Option Value} {base : Heap}
theorem ok_rdPart (n : Nat) : Ok (rdPart (rdItem (innerOf n))) (fun _ => True) := ok_part (ok_item (inner_ok n))
theorem fine_row {s : List Nat} {g : Got} (F : Fine s g) (h : s.length ≤ 2000) : RowOk g.2.1 g.2.2 := by
  obtain ⟨k, k1, k2, k3, k4⟩ := F.suf
  exact ⟨F.pos, big_lt (by omega) k4, F.row, F.non⟩
theorem join_stop {part : List Nat → Res} {s : List Nat} (h : s.take 1 ≠ [38]) : ∀ (f b : Nat) (r : List Nat), rdJoin part f s b r = .ok (s, b, r)
  | 0, b, r => rfl
  | f + 1, b, r => by
    unfold rdJoin
    cases s with
    | nil => rfl
    | cons c s2 =>
      show (if c = 38 then _ else _) = _
      rw [if_neg (fun z => h (by rw [z]; rfl))]
theorem join_go {part : List Nat → Res} {s2 : List Nat} {f b : Nat} {r : List Nat} : rdJoin part (f + 1) (38 :: s2) b r = match part s2 with
  | .error e => .error e
  | .ok (s3, b2, r2) => rdJoin part f s3 (Nat.lcm b b2) (tog b r b2 r2) := by
  have h : ∀ c : Nat, c = 38 → rdJoin part (f + 1) (c :: s2) b r = match part s2 with
      | .error e => .error e
      | .ok (s3, b2, r2) => rdJoin part f s3 (Nat.lcm b b2) (tog b r b2 r2) := by
    intro c hc
    show (if c = 38 then _ else _) = _
    rw [if_pos hc]
    all_goals (cases part s2 <;> rfl)
  exact h 38 rfl
theorem parts_eq {part : List Nat → Res} {top : Bool} {s : List Nat} {g1 g : Got} (h1 : part s = .ok g1) (h2 : rdJoin part g1.1.length g1.1 g1.2.1 g1.2.2 = .ok g) : rdParts part top s = if g.1.take 1 = endOf top then .ok g else .error g.1.length := by
  unfold rdParts
  rw [h1]
  obtain ⟨s1, b1, r1⟩ := g1
  show (match rdJoin part s1.length s1 b1 r1 with
    | .error e => Except.error e
    | .ok (s3, b3, r3) => if s3.take 1 = endOf top then .ok (s3, b3, r3) else .error s3.length) = _
  rw [show rdJoin part s1.length s1 b1 r1 = .ok g from h2]
theorem parts_bad1 {part : List Nat → Res} {top : Bool} {s : List Nat} {e : Nat} (h1 : part s = .error e) : rdParts part top s = .error e := by
  unfold rdParts
  rw [h1]
theorem parts_bad2 {part : List Nat → Res} {top : Bool} {s : List Nat} {g1 : Got} {e : Nat} (h1 : part s = .ok g1) (h2 : rdJoin part g1.1.length g1.1 g1.2.1 g1.2.2 = .error e) : rdParts part top s = .error e := by
  unfold rdParts
  rw [h1]
  obtain ⟨s1, b1, r1⟩ := g1
  show (match rdJoin part s1.length s1 b1 r1 with
    | .error e => Except.error e
    | .ok (s3, b3, r3) => if s3.take 1 = endOf top then .ok (s3, b3, r3) else .error s3.length) = _
  rw [show rdJoin part s1.length s1 b1 r1 = .error e from h2]
abbrev s_read_parts : Stmt := topS 21
abbrev N_read_parts : List Str := ["text", "at", "deep", "last", "beats", "row", "other_beats", "other"]
theorem sc_read_parts : FnScope ["text", "at", "deep", "last", "beats", "row", "other_beats", "other"] ["text", "at", "deep"] (defScope s_read_parts) := ⟨rfl, rfl, rfl, by decide +kernel, rfl, by decide +kernel, by decide +kernel⟩
theorem can_read_parts (T : Bi mg) (F : Defd K mg "read_parts" s_read_parts ["text", "at", "deep"]) {n k : Nat} (hk : 3 ≤ k) (hn : n ≤ 6) {A_BadText : Addr} (E_BadText : Err P w K mg base "BadText" A_BadText "at") (C_char_at : Can P w K mg base L2.CX0 1 "char_at" ["text", "at"] spChar) (C_together : Can P w K mg base L2.CX0 1 "together" ["beats", "row", "other_beats", "other"] spTogether) (C_read_part : Can P w K mg base (L2.CX P w) (k + 2) "read_part" ["text", "at", "deep"] (spPart A_BadText n)) : Can P w K mg base (L2.CX P w) (k + 3) "read_parts" ["text", "at", "deep"] (spParts A_BadText n) := by
  refine canX F sc_read_parts (fun vs H Q E h => ?_) (fun f cdv A outer s H vs Q E hr h => ⟨_, (pss_cons (ps_asg (pe_canX C_read_part hr (by omega) rfl (passes_call (takes_of rfl rfl rfl rfl) (fun _ _ _ _ h => h)) (pa_cons (pv 0) (pa_cons (pv 1) (pa_cons (pv 2) pa_nil)))) (pg_tup rfl (pgs_cons (pg_name (i := 1) sc_read_parts.nd rfl (by first | exact Or.inl rfl | exact Or.inr rfl)) (pgs_cons (pg_name (i := 4) sc_read_parts.nd rfl (by first | exact Or.inl rfl | exact Or.inr rfl)) (pgs_cons (pg_name (i := 5) sc_read_parts.nd rfl (by first | exact Or.inl rfl | exact Or.inr rfl)) pgs_nil)))))
  (Evl.pss_cut (ps_while PassesOwn.leaving (pt_cmpR op_eq (pe_can C_char_at hr (by omega) rfl (pa_cons (pv 0) (pa_cons (pv 1) pa_nil))) (pe_strL [38] (by decide +kernel)) (nomark _)) (pss_cons (ps_asg (pe_canX C_read_part hr (by omega) rfl (passes_call (takes_of rfl rfl rfl rfl) (fun _ _ _ _ h => h)) (pa_cons (pv 0) (pa_cons (pe_op op_add (pv 1) pe_int) (pa_cons (pv 2) pa_nil)))) (pg_tup rfl (pgs_cons (pg_name (i := 1) sc_read_parts.nd rfl (by first | exact Or.inl rfl | exact Or.inr rfl)) (pgs_cons (pg_name (i := 6) sc_read_parts.nd rfl (by first | exact Or.inl rfl | exact Or.inr rfl)) (pgs_cons (pg_name (i := 7) sc_read_parts.nd rfl (by first | exact Or.inl rfl | exact Or.inr rfl)) pgs_nil)))))
  (pss_one (ps_asg (pe_can C_together hr (by omega) rfl (pa_cons (pv 4) (pa_cons (pv 5) (pa_cons (pv 6) (pa_cons (pv 7) pa_nil))))) (pg_tup rfl (pgs_cons (pg_name (i := 4) sc_read_parts.nd rfl (by first | exact Or.inl rfl | exact Or.inr rfl)) (pgs_cons (pg_name (i := 5) sc_read_parts.nd rfl (by first | exact Or.inl rfl | exact Or.inr rfl)) pgs_nil)))))))
  (pss_cons (ps_set (i := 3) sc_read_parts.nd rfl (by first | exact Or.inl rfl | exact Or.inr rfl) (pe_ifExp (pt_cmpR op_eq (pv 2) pe_int (nomark _)) (pe_strL [] (by decide +kernel)) (pe_strL [41] (by decide +kernel))))
  (pss_cons (ps_if (pt_cmpR op_ne (pe_can C_char_at hr (by omega) rfl (pa_cons (pv 0) (pa_cons (pv 1) pa_nil))) (pv 3) (nomark _)) (pss_one (ps_raise rfl (takes_of rfl rfl rfl rfl) (pmk_err E_BadText hr (by omega) rfl (pa_cons (pv 1) pa_nil)))) pss_nil)
  (pss_one (ps_ret (pe_tup (pa_cons (pv 1) (pa_cons (pv 4) (pa_cons (pv 5) pa_nil)))))))))), ?_⟩)
  · obtain ⟨_, _, rfl, _⟩ := h
    rfl
  · obtain ⟨l, i, rfl, hl, hi, q⟩ := h
    rw [rdAt_eq] at q
    have okp := ok_rdPart n
    walk_at "rd"
    refine ⟨l, i, rfl, hn, hl, hi, ?_⟩
    generalize hpart : rdPart (rdItem (innerOf n)) = part at q okp ⊢
    generalize ht : decide (n = 6) = top at q
    cases hx : part (l.drop i) with
    | error e => exact q.bad (parts_bad1 hx) rfl
    | ok g0 =>
      obtain ⟨s1, b1, r1⟩ := g0
      have F1 := okp _ _ trivial hx
      obtain ⟨d1, d2, d3⟩ := suf_pos F1 hi
      have jl0 : (l.drop i).length ≤ 2000 := by rw [List.length_drop]; omega
      intro p0 H0 ex0 hp0
      replace q := q.ex ex0
      walk_at "rd"
      refine r_gtup3 rfl (Evl.st_of hp0) ?_
      walk_at "rd"
      refine r_cut (Mid := fun σ' H' => ∃ (j b : Nat) (r : List Nat) (o3 o6 o7 : Option V), σ' = [some (.str (S l)), some (.int (j : Int)), some (.int (6 - (n : Int))), o3, some (.int (b : Int)), some (.str (S r)), o6, o7] ∧ Ex H0 H' ∧ j ≤ l.length ∧ Fine (l.drop i) (l.drop j, b, r) ∧ rdJoin part s1.length s1 b1 r1 = .ok (l.drop j, b, r)) ?_ ?_
      · let WW : Nat → L2.St → Hp → Prop := fun m σ' H' => ∃ (j b f : Nat) (r : List Nat) (o3 o6 o7 : Option V), σ' = [some (.str (S l)), some (.int (j : Int)), some (.int (6 - (n : Int))), o3, some (.int (b : Int)), some (.str (S r)), o6, o7] ∧ Ex H0 H' ∧ j ≤ l.length ∧ m + j = l.length ∧ l.length - j ≤ f ∧ Fine (l.drop i) (l.drop j, b, r) ∧ rdJoin part s1.length s1 b1 r1 = rdJoin part f (l.drop j) b r
        refine ⟨WW, ⟨l.length - (l.length - s1.length), l.length - s1.length, b1, s1.length, r1, none, none, none, rfl, Evl.Ex.refl _, d2, by omega, by omega, by rw [d1]; exact F1, by rw [d1]⟩, fun m σ' H1 hW => ?_⟩
        obtain ⟨j, b, f', r, o3, o6, o7, rfl, ex1, hj, hm, hf, Fa, hT⟩ := hW
        walk_at "rd"
        refine ⟨l, j, rfl, by omega, ?_⟩
        walk_at "rd"
        have jl : (l.drop j).length = l.length - j := List.length_drop
        refine r_ite (fun h38 => ?_) (fun h38 => ?_)
        · cases hs : l.drop j with
          | nil => rw [hs] at h38; cases h38
          | cons c s2 =>
            have c38 : c = 38 := by rw [hs] at h38; injection h38
            subst c38
            have e2 : l.drop (j + 1) = s2 := by
              have e : (l.drop j).drop 1 = (38 :: s2).drop 1 := by rw [hs]
              rw [List.drop_drop] at e
              exact e
            rw [hs, List.length_cons] at jl
            rw [hs] at hT Fa
            obtain ⟨f2, rfl⟩ : ∃ x, f' = x + 1 := ⟨f' - 1, by omega⟩
            rw [join_go] at hT
            refine ⟨fun σ2 H2 => ∃ m', m' < m ∧ WW m' σ2 H2, fun σ2 H2 z => z, ?_⟩
            walk_at "rd"
            refine ⟨l, j + 1, by rw [Int.natCast_add]; rfl, hn, hl, by omega, ?_⟩
            rw [hpart, e2]
            cases hy : part s2 with
            | error e =>
              rw [hy] at hT
              exact (q.ex ex1).bad (parts_bad2 (g1 := (s1, b1, r1)) hx hT) rfl
            | ok g2 =>
              obtain ⟨s3, b2, r2⟩ := g2
              rw [hy] at hT
              have G := okp _ _ trivial hy
              have Fj := fine_join Fa G
              have G' : Fine (l.drop (j + 1)) (s3, b2, r2) := by rw [e2]; exact G
              obtain ⟨e4, e5, e6⟩ := suf_pos G' (by omega)
              have ra := fine_row Fa jl0
              have rb := fine_row G (by omega)
              intro p1 H2 ex2 hp1
              walk_at "rd"
              refine r_gtup3 rfl (Evl.st_of hp1) ?_
              walk_at "rd"
              refine ⟨b, r, b2, r2, rfl, ra, rb, fun p2 H3 ex3 hp2 => ?_⟩
              walk_at "rd"
              refine r_gtup2 (Evl.st_of hp2) ?_
              walk_at "rd"
              exact ⟨l.length - (l.length - s3.length), by omega, l.length - s3.length, Nat.lcm b b2, f2, tog b r b2 r2, o3, some (.int (b2 : Int)), some (.str (S r2)), rfl, (ex1.trans ex2).trans ex3, e5, by omega, by omega, by rw [e4]; exact Fj, by rw [e4]; exact hT⟩
        · exact ⟨j, b, r, o3, o6, o7, rfl, ex1, hj, Fa, by rw [hT, join_stop h38]⟩
      · intro σ' H1 hM
        obtain ⟨j, b, r, o3, o6, o7, rfl, ex1, hj, Fa, hT⟩ := hM
        have ho := parts_eq (top := top) (g1 := (s1, b1, r1)) hx hT
        replace q := q.ex ex1
        have jl : (l.drop j).length = l.length - j := List.length_drop
        walk_at "rd"
        refine r_ite (fun h6 => ?_) (fun h6 => ?_)
        · have et : top = true := by rw [← ht]; exact decide_eq_true (by omega)
          rw [et] at ho q
          walk_at "rd"
          refine ⟨l, j, rfl, by omega, ?_⟩
          walk_at "rd"
          refine r_iteN (fun hE => ?_) (fun hE => ?_)
          · walk_at "rd"
            refine r_mk (q.bad (ho.trans (if_neg ?_)) ?_)
            · exact hE
            · show (j : Int) = ((l.length - (l.drop j).length : Nat) : Int)
              rw [jl]
              omega
          · walk_at "rd"
            refine ⟨small (by show 3 ≤ 1000000; decide), fun p hp => ?_⟩
            refine q.good (ho.trans (if_pos hE)) (Evl.Ex.new hp) upd_same ?_ rfl rfl
            show (j : Int) = ((l.length - (l.drop j).length : Nat) : Int)
            rw [jl]
            omega
        · have et : top = false := by rw [← ht]; exact decide_eq_false (by omega)
          rw [et] at ho q
          walk_at "rd"
          refine ⟨l, j, rfl, by omega, ?_⟩
          walk_at "rd"
          refine r_iteN (fun hE => ?_) (fun hE => ?_)
          · walk_at "rd"
            refine r_mk (q.bad (ho.trans (if_neg ?_)) ?_)
            · exact hE
            · show (j : Int) = ((l.length - (l.drop j).length : Nat) : Int)
              rw [jl]
              omega
          · walk_at "rd"
            refine ⟨small (by show 3 ≤ 1000000; decide), fun p hp => ?_⟩
            refine q.good (ho.trans (if_pos hE)) (Evl.Ex.new hp) upd_same ?_ rfl rfl
            show (j : Int) = ((l.length - (l.drop j).length : Nat) : Int)
            rw [jl]
            omega

theorem can_below {k n : Nat} {A_BadText : Addr} (F : Defd K mg "read_parts" s_read_parts ["text", "at", "deep"]) (hn : n = 0) : Can P w K mg base (L2.CX P w) (k + 1) "read_parts" ["text", "at", "deep"] (spBelow A_BadText n) := by
  subst hn
  exact canX F sc_read_parts (fun vs H Q E h => h.elim) (fun f cdv A outer s H vs Q E hr h => h.elim)
theorem can_reader (T : Bi mg) (F1 : Defd K mg "read_item" s_read_item ["text", "at", "deep"]) (F2 : Defd K mg "read_part" s_read_part ["text", "at", "deep"]) (F3 : Defd K mg "read_parts" s_read_parts ["text", "at", "deep"]) {A_BadText : Addr} (E_BadText : Err P w K mg base "BadText" A_BadText "at") (c_LEAST_TIMES : ∃ u, mg "LEAST_TIMES" = some u ∧ RelV (.int 2) u) (c_MOST_TIMES : ∃ u, mg "MOST_TIMES" = some u ∧ RelV (.int 24) u) (c_MOST_DEEP : ∃ u, mg "MOST_DEEP" = some u ∧ RelV (.int 6) u) (c_MOST_BEATS : ∃ u, mg "MOST_BEATS" = some u ∧ RelV (.int 24) u) (c_DIGITS : ∃ u, mg "DIGITS" = some u ∧ RelV (.str (S DGL)) u) (c_DARK : ∃ u, mg "DARK" = some u ∧ RelV (.str (S [46])) u) (C_end_of_run : Can P w K mg base L2.CX0 1 "end_of_run" ["text", "at"] spEnd) (C_size_of_run : Can P w K mg base (L2.CX P w) 3 "size_of_run" ["text", "at", "end"] (spSize A_BadText)) (C_char_at : Can P w K mg base L2.CX0 1 "char_at" ["text", "at"] spChar) (C_is_sign : Can P w K mg base L2.CX0 1 "is_sign" ["thing"] spIsSign) (C_kept : Can P w K mg base L2.CX0 1 "kept" ["beats", "row"] spKept) (C_together : Can P w K mg base L2.CX0 1 "together" ["beats", "row", "other_beats", "other"] spTogether) (C_read_whole : Can P w K mg base (L2.CX P w) 4 "read_whole" ["text", "at", "beats"] (spWhole A_BadText)) :
    ∀ n : Nat, n ≤ 6 → Can P w K mg base (L2.CX P w) (6 + 3 * n) "read_parts" ["text", "at", "deep"] (spParts A_BadText n) := by
  have step : ∀ (n k : Nat), 3 ≤ k → n ≤ 6 → Can P w K mg base (L2.CX P w) k "read_parts" ["text", "at", "deep"] (spBelow A_BadText n) → Can P w K mg base (L2.CX P w) (k + 3) "read_parts" ["text", "at", "deep"] (spParts A_BadText n) := by
    intro n k hk hn C_read_parts
    have C_read_item : Can P w K mg base (L2.CX P w) (k + 1) "read_item" ["text", "at", "deep"] (spItem A_BadText n) := by
      apply can_read_item T F1 <;> assumption
    have C_read_part : Can P w K mg base (L2.CX P w) (k + 2) "read_part" ["text", "at", "deep"] (spPart A_BadText n) := by
      apply can_read_part T F2 <;> assumption
    apply can_read_parts T F3 <;> assumption
  intro n
  induction n with
  | zero => intro h; exact step 0 3 (by decide) h (can_below F3 rfl)
  | succ n ih =>
    intro h
    have e : 6 + 3 * (n + 1) = 6 + 3 * n + 3 := by omega
    rw [e]
    exact step (n + 1) (6 + 3 * n) (by omega) h (ih (by omega))
end
end Fk

set_option Elab.async false
set_option linter.all false
set_option maxRecDepth 100000
set_option maxHeartbeats 4000000
namespace Fk
open PySem PySem.Spec PyProof.Rows L2 Fg Rt
local macro_rules | `(tactic| walk_at "rd1") => `(tactic| first
  | with_reducible refine r_seq ?_
  | with_reducible refine r_asg ?_
  | with_reducible refine r_gname ?_
  | with_reducible refine r_gsub ?_
  | with_reducible refine r_ret ?_
  | with_reducible refine r_retN ?_
  | with_reducible refine r_next ?_
  | with_reducible refine r_drop ?_
  | with_reducible refine r_ifS ?_
  | with_reducible refine r_if ?_
  | with_reducible refine r_par ?_
  | with_reducible refine r_pair ?_
  | with_reducible refine r_test ?_
  | with_reducible refine r_tB ?_
  | with_reducible refine r_not ?_
  | with_reducible refine r_and ?_
  | with_reducible refine r_or ?_
  | with_reducible refine r_andV ?_
  | with_reducible refine r_orV ?_
  | with_reducible refine r_notV ?_
  | with_reducible refine r_nil ?_
  | with_reducible refine r_cons ?_
  | with_reducible refine r_call ?_
  | with_reducible refine r_callS ?_
  | with_reducible refine r_cb ?_
  | with_reducible refine r_then ?_
  | with_reducible refine r_tup ?_
  | with_reducible refine r_lst ?_
  | with_reducible refine r_sl ?_
  | with_reducible refine r_nopart ?_
  | with_reducible refine r_part ?_
  | with_reducible refine r_lcR1 ?_
  | with_reducible refine r_lcR2 ?_
  | with_reducible refine r_lcL ?_
  | with_reducible refine r_lcT ?_
  | with_reducible refine r_forR1 ?_
  | with_reducible refine r_forR2 ?_
  | with_reducible refine r_forL ?_
  | with_reducible refine r_forT ?_
  | with_reducible refine r_forE ?_
  | with_reducible refine r_strE ?_
  | ((with_reducible refine r_rng1 ?hc ?_); (case hc => omega))
  | ((with_reducible refine r_rng2 ?hc ?_); (case hc => omega))
  | ((with_reducible refine' r_refL ?hc ?_); (case hc => first | assumption | exact Evl.sq_of (by assumption)))
  | ((with_reducible refine' r_refT ?hc ?_); (case hc => first | assumption | exact Evl.st_of (by assumption)))
  | with_reducible refine r_op ?_
  | with_reducible refine r_un ?_
  | with_reducible refine r_chain ?_
  | ((with_reducible refine' r_var ?hv ?_); (case hv => exact rfl))
  | with_reducible refine r_cS ?_
  | with_reducible refine r_cs ?_
  | with_reducible refine r_c ?_
  | with_reducible refine r_yes ?_
  | with_reducible refine r_bm ?_
  | with_reducible refine r_bl ?_
  | with_reducible refine r_in ?_
  | with_reducible refine r_ty ?_
  | with_reducible refine r_I0 ?_
  | ((with_reducible refine r_I ?hc ?_); (case hc => first | assumption | (show (0 : Int) < _; decide) | exact Or.inr ⟨by decide, by decide⟩ | exact Or.inr ⟨by omega, by omega⟩ | exact Or.inl ⟨by decide, by decide⟩ | exact (show CDivW _ _ from ⟨by decide, by decide +kernel⟩) | exact (show CPowW _ _ from ⟨by decide, by decide +kernel⟩) | (show (0 : Int) < _; omega)))
  | with_reducible refine r_U ?_
  | with_reducible refine r_eqI ?_
  | with_reducible refine r_neI ?_
  | with_reducible refine r_eqS ?_
  | with_reducible refine r_neS ?_
  | with_reducible refine r_eqB ?_
  | with_reducible refine r_neB ?_
  | with_reducible refine r_niS ?_
  | with_reducible refine r_inSS ?_
  | ((with_reducible refine r_slSS ?hc ?_); (case hc => first | exact small (by omega) | exact small (by simp; omega)))
  | ((with_reducible refine r_lenS ?hc ?_); (case hc => first | exact small (by omega) | exact small (by simp; omega)))
  | ((with_reducible refine' r_lenL ?hc ?_); (case hc => first | assumption | exact Evl.sq_of (by assumption)))
  | ((with_reducible refine' r_lenT ?hc ?_); (case hc => first | assumption | exact Evl.st_of (by assumption)))
  | ((with_reducible refine' r_ixL ?h1 ?h2 ?h3 ?_); (case h1 => first | assumption | exact Evl.sq_of (by assumption) | exact Evl.sq_of upd_same); (case h2 => first | decide | omega); (case h3 => first | exact rfl | assumption))
  | ((with_reducible refine' r_ixT ?h1 ?h2 ?h3 ?_); (case h1 => first | assumption | exact Evl.st_of (by assumption)); (case h2 => first | decide | omega); (case h3 => first | exact rfl | assumption))
  | with_reducible refine r_T ?_
  | with_reducible refine r_notNn ?_
  | with_reducible refine r_notN_int ?_
  | with_reducible refine r_notN_str ?_
  | with_reducible refine r_notN_ref ?_
  | with_reducible refine r_isNn ?_
  | with_reducible refine r_isN_int ?_
  | with_reducible refine r_isN_str ?_
  | with_reducible refine r_isN_ref ?_
  | ((with_reducible refine' r_isi ?ht ?hk ?_); (case ht => first | exact .base (.int _) | exact .base (.bl _) | exact .base (.str _) | exact .base .non | exact .base (.lst (by assumption)) | exact .base (.tup (by assumption))); (case hk => first | exact kb_int_int | exact kb_int_bool | exact kb_int_str | exact kb_int_list | exact kb_int_tuple | exact kb_bool_int | exact kb_bool_bool | exact kb_bool_str | exact kb_bool_list | exact kb_bool_tuple | exact kb_str_int | exact kb_str_bool | exact kb_str_str | exact kb_str_list | exact kb_str_tuple | exact kb_NoneType_int | exact kb_NoneType_bool | exact kb_NoneType_str | exact kb_NoneType_list | exact kb_NoneType_tuple | exact kb_list_int | exact kb_list_bool | exact kb_list_str | exact kb_list_list | exact kb_list_tuple | exact kb_tuple_int | exact kb_tuple_bool | exact kb_tuple_str | exact kb_tuple_list | exact kb_tuple_tuple))
  | with_reducible refine r_F ?_
  | with_reducible refine r_nT ?_
  | with_reducible refine r_nF ?_
  | with_reducible refine r_mko ?_
  | with_reducible refine r_xf ?_
  | ((with_reducible refine' r_sum ?hc ?_); (case hc => first | assumption | exact Evl.sq_of (by assumption)))
  | ((with_reducible refine' r_setL ?h1 ?h2 ?h3 ?_); (case h1 => first | assumption | exact upd_same); (case h2 => first | decide | omega); (case h3 => first | (show _ < _; decide) | (simp; done)))
  | with_reducible refine r_int ?_
  | with_reducible refine r_abs ?_)
local macro_rules | `(tactic| walk_at "rd") => `(tactic| repeat (walk_at "rd1"))

section
variable {P : Program} {w : World} {K : PySem.W.Frag} {mg : Str → Option Value} {base : Heap}
/-- what read_round tells -/
def OutRound (C CT : Addr) (l : List Nat) (H : Hp) (Q : VK) (E : XK) : Prop := match rdAt 6 true l with
  | .error e => Wish C "at" (.int ((l.length - e : Nat) : Int)) H E
  | .ok g => (g.2.1 ≤ 24 → ∀ H', Ex H H' → Q (.str (S g.2.2)) H') ∧ (24 < g.2.1 → Wish CT "number" (.int (g.2.1 : Int)) H E)
def spReadRound (K : PySem.W.Frag) (C CT : Addr) : Sp := fun vs H Q E => ∃ x, vs = [x] ∧ ((∃ m, TyX K H x (.type m) ∧ kitB m "str" = some false ∧ Wish C "at" (.int (-1)) H E) ∨ ∃ l, x = .str (S l) ∧ l.length ≤ 2000 ∧ OutRound C CT l H Q E)
abbrev s_read_round : Stmt := topS 15
abbrev N_read_round : List Str := ["text", "_", "beats", "row"]
theorem sc_read_round : FnScope ["text", "_", "beats", "row"] ["text"] (defScope s_read_round) := ⟨rfl, rfl, rfl, by decide +kernel, rfl, by decide +kernel, by decide +kernel⟩
theorem can_read_round (T : Bi mg) (F : Defd K mg "read_round" s_read_round ["text"]) (c_MOST_BEATS : ∃ u, mg "MOST_BEATS" = some u ∧ RelV (.int 24) u) {A_BadText : Addr} (E_BadText : Err P w K mg base "BadText" A_BadText "at") {A_TooLong : Addr} (E_TooLong : Err P w K mg base "TooLong" A_TooLong "number") (C_read_parts : Can P w K mg base (L2.CX P w) 24 "read_parts" ["text", "at", "deep"] (spParts A_BadText 6)) : Can P w K mg base (L2.CX P w) 25 "read_round" ["text"] (spReadRound K A_BadText A_TooLong) := by
  refine canX F sc_read_round (fun vs H Q E h => ?_) (fun f cdv A outer s H vs Q E hr h => ⟨_, (pss_cons (ps_if (pt_not (pt_val (pe_callB call_isi (by rfl) T.b_isinstance boot_isinstance (pa_cons (pv 0) (pa_cons (pe_bltn (v := .ty "str") (by rfl) T.b_str boot_str rfl) pa_nil))))) (pss_one (ps_raise rfl (takes_of rfl rfl rfl rfl) (pmk_err E_BadText hr (by decide) rfl (pa_cons (pe_un un_neg pe_int) pa_nil)))) pss_nil)
  (pss_cons (ps_asg (pe_canX C_read_parts hr (by decide) rfl (passes_call (takes_of rfl rfl rfl rfl) (fun _ _ _ _ h => h)) (pa_cons (pv 0) (pa_cons pe_int (pa_cons pe_int pa_nil)))) (pg_tup rfl (pgs_cons (pg_name (i := 1) sc_read_round.nd rfl (by first | exact Or.inl rfl | exact Or.inr rfl)) (pgs_cons (pg_name (i := 2) sc_read_round.nd rfl (by first | exact Or.inl rfl | exact Or.inr rfl)) (pgs_cons (pg_name (i := 3) sc_read_round.nd rfl (by first | exact Or.inl rfl | exact Or.inr rfl)) pgs_nil)))))
  (pss_cons (ps_if (pt_cmpR op_gt (pv 2) (C8.pe_gc rfl c_MOST_BEATS) (nomark _)) (pss_one (ps_raise rfl (takes_of rfl rfl rfl rfl) (pmk_err E_TooLong hr (by decide) rfl (pa_cons (pv 2) pa_nil)))) pss_nil)
  (pss_one (ps_ret (pv 3)))))), ?_⟩)
  · obtain ⟨_, rfl, _⟩ := h
    rfl
  · obtain ⟨x, rfl, h⟩ := h
    rcases h with ⟨m, hm, hk, w1⟩ | ⟨l, rfl, hl, q⟩
    · walk_at "rd"
      refine r_isi hm hk ?_
      walk_at "rd"
      exact r_mk w1
    · walk_at "rd"
      refine ⟨l, 0, rfl, hl, Nat.zero_le _, ?_⟩
      show OutR A_BadText l (rdAt 6 true (l.drop 0)) H _ E
      rw [List.drop_zero]
      unfold OutRound at q
      cases hx : rdAt 6 true l with
      | error e =>
        rw [hx] at q
        exact q
      | ok g =>
        rw [hx] at q
        obtain ⟨q1, q2⟩ := q
        intro p H1 ex1 hp
        walk_at "rd"
        refine r_gtup3 rfl (Evl.st_of hp) ?_
        walk_at "rd"
        refine r_ite (fun h => ?_) (fun h => ?_)
        · walk_at "rd"
          exact r_mk ((q2 (by omega)).ex ex1)
        · walk_at "rd"
          exact q1 (by omega) H1 ex1
end
end Fk

set_option Elab.async false
set_option linter.all false
set_option maxRecDepth 100000
set_option maxHeartbeats 4000000
namespace Fk
open PySem PySem.Spec PyProof.Rows L2 Fg
local macro_rules | `(tactic| walk_at "rd1") => `(tactic| first
  | with_reducible refine r_seq ?_
  | with_reducible refine r_asg ?_
  | with_reducible refine r_gname ?_
  | with_reducible refine r_gsub ?_
  | with_reducible refine r_ret ?_
  | with_reducible refine r_retN ?_
  | with_reducible refine r_next ?_
  | with_reducible refine r_drop ?_
  | with_reducible refine r_ifS ?_
  | with_reducible refine r_if ?_
  | with_reducible refine r_par ?_
  | with_reducible refine r_pair ?_
  | with_reducible refine r_test ?_
  | with_reducible refine r_tB ?_
  | with_reducible refine r_not ?_
  | with_reducible refine r_and ?_
  | with_reducible refine r_or ?_
  | with_reducible refine r_andV ?_
  | with_reducible refine r_orV ?_
  | with_reducible refine r_notV ?_
  | with_reducible refine r_nil ?_
  | with_reducible refine r_cons ?_
  | with_reducible refine r_call ?_
  | with_reducible refine r_callS ?_
  | with_reducible refine r_cb ?_
  | with_reducible refine r_then ?_
  | with_reducible refine r_tup ?_
  | with_reducible refine r_lst ?_
  | with_reducible refine r_sl ?_
  | with_reducible refine r_nopart ?_
  | with_reducible refine r_part ?_
  | with_reducible refine r_lcR1 ?_
  | with_reducible refine r_lcR2 ?_
  | with_reducible refine r_lcL ?_
  | with_reducible refine r_lcT ?_
  | with_reducible refine r_forR1 ?_
  | with_reducible refine r_forR2 ?_
  | with_reducible refine r_forL ?_
  | with_reducible refine r_forT ?_
  | with_reducible refine r_forE ?_
  | with_reducible refine r_strE ?_
  | ((with_reducible refine r_rng1 ?hc ?_); (case hc => omega))
  | ((with_reducible refine r_rng2 ?hc ?_); (case hc => omega))
  | ((with_reducible refine' r_refL ?hc ?_); (case hc => first | assumption | exact Evl.sq_of (by assumption)))
  | ((with_reducible refine' r_refT ?hc ?_); (case hc => first | assumption | exact Evl.st_of (by assumption)))
  | with_reducible refine r_op ?_
  | with_reducible refine r_un ?_
  | with_reducible refine r_chain ?_
  | ((with_reducible refine' r_var ?hv ?_); (case hv => exact rfl))
  | with_reducible refine r_cS ?_
  | with_reducible refine r_cs ?_
  | with_reducible refine r_c ?_
  | with_reducible refine r_yes ?_
  | with_reducible refine r_bm ?_
  | with_reducible refine r_bl ?_
  | with_reducible refine r_in ?_
  | with_reducible refine r_ty ?_
  | with_reducible refine r_I0 ?_
  | ((with_reducible refine r_I ?hc ?_); (case hc => first | assumption | (show (0 : Int) < _; decide) | exact Or.inr ⟨by decide, by decide⟩ | exact Or.inr ⟨by omega, by omega⟩ | exact Or.inl ⟨by decide, by decide⟩ | exact (show CDivW _ _ from ⟨by decide, by decide +kernel⟩) | exact (show CPowW _ _ from ⟨by decide, by decide +kernel⟩) | (show (0 : Int) < _; omega)))
  | with_reducible refine r_U ?_
  | with_reducible refine r_eqI ?_
  | with_reducible refine r_neI ?_
  | with_reducible refine r_eqS ?_
  | with_reducible refine r_neS ?_
  | with_reducible refine r_eqB ?_
  | with_reducible refine r_neB ?_
  | with_reducible refine r_niS ?_
  | with_reducible refine r_inSS ?_
  | ((with_reducible refine r_slSS ?hc ?_); (case hc => first | exact small (by omega) | exact small (by simp; omega)))
  | ((with_reducible refine r_lenS ?hc ?_); (case hc => first | exact small (by omega) | exact small (by simp; omega)))
  | ((with_reducible refine' r_lenL ?hc ?_); (case hc => first | assumption | exact Evl.sq_of (by assumption)))
  | ((with_reducible refine' r_lenT ?hc ?_); (case hc => first | assumption | exact Evl.st_of (by assumption)))
  | ((with_reducible refine' r_ixL ?h1 ?h2 ?h3 ?_); (case h1 => first | assumption | exact Evl.sq_of (by assumption) | exact Evl.sq_of upd_same); (case h2 => first | decide | omega); (case h3 => first | exact rfl | assumption))
  | ((with_reducible refine' r_ixT ?h1 ?h2 ?h3 ?_); (case h1 => first | assumption | exact Evl.st_of (by assumption)); (case h2 => first | decide | omega); (case h3 => first | exact rfl | assumption))
  | with_reducible refine r_T ?_
  | with_reducible refine r_notNn ?_
  | with_reducible refine r_notN_int ?_
  | with_reducible refine r_notN_str ?_
  | with_reducible refine r_notN_ref ?_
  | with_reducible refine r_isNn ?_
  | with_reducible refine r_isN_int ?_
  | with_reducible refine r_isN_str ?_
  | with_reducible refine r_isN_ref ?_
  | ((with_reducible refine' r_isi ?ht ?hk ?_); (case ht => first | exact .base (.int _) | exact .base (.bl _) | exact .base (.str _) | exact .base .non | exact .base (.lst (by assumption)) | exact .base (.tup (by assumption))); (case hk => first | exact kb_int_int | exact kb_int_bool | exact kb_int_str | exact kb_int_list | exact kb_int_tuple | exact kb_bool_int | exact kb_bool_bool | exact kb_bool_str | exact kb_bool_list | exact kb_bool_tuple | exact kb_str_int | exact kb_str_bool | exact kb_str_str | exact kb_str_list | exact kb_str_tuple | exact kb_NoneType_int | exact kb_NoneType_bool | exact kb_NoneType_str | exact kb_NoneType_list | exact kb_NoneType_tuple | exact kb_list_int | exact kb_list_bool | exact kb_list_str | exact kb_list_list | exact kb_list_tuple | exact kb_tuple_int | exact kb_tuple_bool | exact kb_tuple_str | exact kb_tuple_list | exact kb_tuple_tuple))
  | with_reducible refine r_F ?_
  | with_reducible refine r_nT ?_
  | with_reducible refine r_nF ?_
  | with_reducible refine r_mko ?_
  | with_reducible refine r_xf ?_
  | ((with_reducible refine' r_sum ?hc ?_); (case hc => first | assumption | exact Evl.sq_of (by assumption)))
  | ((with_reducible refine' r_setL ?h1 ?h2 ?h3 ?_); (case h1 => first | assumption | exact upd_same); (case h2 => first | decide | omega); (case h3 => first | (show _ < _; decide) | (simp; done)))
  | with_reducible refine r_int ?_
  | with_reducible refine r_abs ?_)
local macro_rules | `(tactic| walk_at "rd") => `(tactic| repeat (walk_at "rd1"))

section
variable {P : Program} {w : World} {K : PySem.W.Frag} {mg : Str → Option Value} {base : Heap}
abbrev s_l_mix : Stmt := topS 27
abbrev N_l_mix : List Str := ["_law_cell", "_law_turn", "_law_one", "_law_two"]
theorem sc_l_mix : FnScope ["_law_cell", "_law_turn", "_law_one", "_law_two"] ["_law_cell", "_law_turn"] (defScope s_l_mix) := ⟨rfl, rfl, rfl, by decide +kernel, rfl, by decide +kernel, by decide +kernel⟩
def spMix : Sp := fun vs H Q _ => ∃ a b : Int, vs = [.int a, .int b] ∧ ∀ k : Int, Q (.int k) H
theorem can_mix (T : Bi mg) (F : Defd K mg "_law_mix" s_l_mix ["_law_cell", "_law_turn"]) : Can P w K mg base L2.CX0 1 "_law_mix" ["_law_cell", "_law_turn"] spMix := by
  refine can0 F sc_l_mix (fun vs H Q E h => ?_) (fun f cdv A outer s H vs Q E hr h => ⟨_, (pss_cons (ps_set (i := 2) sc_l_mix.nd rfl (by first | exact Or.inl rfl | exact Or.inr rfl) (pe_op op_mod (pe_callTy call_intI (by rfl) T.b_int boot_int (pa_cons (pe_op op_add (pe_op op_add (pe_op op_mul (pv 0) pe_int) (pe_op op_mul (pv 1) pe_int)) pe_int) pa_nil)) pe_int))
  (pss_cons (ps_set (i := 3) sc_l_mix.nd rfl (by first | exact Or.inl rfl | exact Or.inr rfl) (pe_op op_mod (pe_callTy call_intI (by rfl) T.b_int boot_int (pa_cons (pe_op op_add (pe_op op_add (pe_op op_mul (pv 2) (pv 2)) (pe_op op_mul (pv 1) pe_int)) (pv 0)) pa_nil)) pe_int))
  (pss_cons (ps_set (i := 3) sc_l_mix.nd rfl (by first | exact Or.inl rfl | exact Or.inr rfl) (pe_op op_mod (pe_callTy call_intI (by rfl) T.b_int boot_int (pa_cons (pe_op op_add (pe_op op_mul (pv 3) (pv 3)) (pv 2)) pa_nil)) pe_int))
  (pss_one (ps_ret (pe_op op_fdivW (pv 3) pe_int)))))), ?_⟩)
  · obtain ⟨a, b, rfl, _⟩ := h
    rfl
  · obtain ⟨a, b, rfl, q⟩ := h
    walk_at "rd"
    exact q _
abbrev s_l_draw : Stmt := topS 26
abbrev N_l_draw : List Str := ["_law_script", "_law_cells", "_law_cell"]
theorem sc_l_draw : FnScope ["_law_script", "_law_cells", "_law_cell"] ["_law_script"] (defScope s_l_draw) := ⟨rfl, rfl, rfl, by decide +kernel, rfl, by decide +kernel, by decide +kernel⟩abbrev s_l_pick : Stmt := topS 28
abbrev N_l_pick : List Str := ["_law_draw_here", "_law_many", "_law_cell", "_law_digit", "_law_found"]
theorem sc_l_pick : FnScope ["_law_draw_here", "_law_many", "_law_cell", "_law_digit", "_law_found"] ["_law_draw_here", "_law_many"] (defScope s_l_pick) := ⟨rfl, rfl, rfl, by decide +kernel, rfl, by decide +kernel, by decide +kernel⟩
abbrev Big : Int := (10 ^ 60) ^ 64
/-- a draw at d: its cells at c -/
structure Dr (ns : List Int) (c d : Addr) (H : Hp) : Prop where
  ne : c ≠ d
  cells : H c = some (.lst (ns.map V.int))
  ex : ∃ i n big cnt base : Int, H d = some (.lst [.ref c, .int i, .int big, .int cnt, .int n, .int base]) ∧ 0 ≤ i
theorem Dr.ex' {ns : List Int} {c d : Addr} {H H' : Hp} (D : Dr ns c d H) (e : Ex H H') : Dr ns c d H' := ⟨D.ne, e _ _ D.cells, by
  obtain ⟨i, n, big, cnt, base, h, r⟩ := D.ex
  exact ⟨i, n, big, cnt, base, e _ _ h, r⟩⟩
theorem Dr.put {ns : List Int} {c d : Addr} {H : Hp} (D : Dr ns c d H) {i n big cnt base : Int} (hi : 0 ≤ i) : Dr ns c d (upd H d (.lst [.ref c, .int i, .int big, .int cnt, .int n, .int base])) :=
  ⟨D.ne, by rw [upd_ne D.ne]; exact D.cells, i, n, big, cnt, base, upd_same, hi⟩
theorem Dr.put2 {ns : List Int} {c d : Addr} {H : Hp} {o : HO} (D : Dr ns c d H) {i n big cnt base : Int} (hi : 0 ≤ i) : Dr ns c d (upd (upd H d o) d (.lst [.ref c, .int i, .int big, .int cnt, .int n, .int base])) := by
  rw [upd_upd]
  exact D.put hi
theorem Dr.put3 {ns : List Int} {c d : Addr} {H : Hp} {o o' : HO} (D : Dr ns c d H) {i n big cnt base : Int} (hi : 0 ≤ i) : Dr ns c d (upd (upd (upd H d o) d o') d (.lst [.ref c, .int i, .int big, .int cnt, .int n, .int base])) := by
  rw [upd_upd]
  exact D.put2 hi
theorem kp2 {d : Addr} {H : Hp} {o o' : HO} : Kp d H (upd (upd H d o) d o') := by rw [upd_upd]; exact Kp.upd
theorem kp3 {d : Addr} {H : Hp} {o o' o2 : HO} : Kp d H (upd (upd (upd H d o) d o') d o2) := by rw [upd_upd]; exact kp2
theorem cell_at {ns : List Int} {i : Int} (h0 : 0 ≤ i) (h : i < (ns.map V.int).length) : ∃ z : Int, (ns.map V.int)[i.toNat]? = some (.int z) := by
  have h1 : i.toNat < ns.length := by rw [List.length_map] at h; omega
  exact ⟨ns[i.toNat], by rw [List.getElem?_map, List.getElem?_eq_getElem h1]; rfl⟩
def spDraw (K : PySem.W.Frag) : Sp := fun vs H Q _ => ∃ (a : Addr) (ns : List Int), vs = [.ref a] ∧ SqL K H a (ns.map V.int) ∧ ns.length ≤ 63 ∧ ∀ c d H', H c = none → H d = none → Ex H H' → Dr ns c d H' → Q (.ref d) H'
def spPick : Sp := fun vs H Q _ => ∃ (c d : Addr) (m : Int) (ns : List Int), vs = [.ref d, .int m] ∧ Dr ns c d H ∧ m < 2 ^ 200 ∧ ∀ (k : Int) H', 0 ≤ k → (k < m ∨ k = 0) → Kp d H H' → Dr ns c d H' → Q (.int k) H'
theorem can_draw (T : Bi mg) (F : Defd K mg "_law_draw" s_l_draw ["_law_script"]) : Can P w K mg base L2.CX0 1 "_law_draw" ["_law_script"] (spDraw K) := by
  refine can0 F sc_l_draw (fun vs H Q E h => ?_) (fun f cdv A outer s H vs Q E hr h => ⟨_, (pss_cons (ps_setLc (i := 1) (own := [("_law_cell", 2)]) (g := gName 2) (tt := tYes) rfl sc_l_draw.nd rfl rfl (sw_true rfl rfl rfl (by decide +kernel)) (pi_list (pv 0)) (blkOk_by (N := N_l_draw) (sc := defScope s_l_draw) (by decide +kernel)) (fun _ _ _ _ _ => pg_name (i := 2) sc_l_draw.nd rfl (Or.inl rfl)) (fun _ _ _ _ _ => pts_nil) (fun _ _ _ _ _ => (pv 2)))
  (pss_one (ps_ret (pe_lst (pa_cons (pv 1) (pa_cons pe_int (pa_cons pe_int (pa_cons pe_int (pa_cons pe_int (pa_cons (pe_op op_add (pe_op op_mod (pe_callTy call_intI (by rfl) T.b_int boot_int (pa_cons (pe_callB (cr_sum rfl) (by rfl) T.b_sum boot_sum (pa_cons (pv 1) pa_nil)) pa_nil)) pe_int) (pe_op op_mul pe_int (pe_callB call_lenQ (by rfl) T.b_len boot_len (pa_cons (pv 1) pa_nil)))) pa_nil)))))))))), ?_⟩)
  · obtain ⟨a, ns, rfl, _⟩ := h
    rfl
  · obtain ⟨a, ns, rfl, hS, hl, q⟩ := h
    walk_at "rd"
    refine lcL (xs := ns.map V.int) (fun D i acc H2 => Ex H H2 ∧ acc = (ns.take i).map V.int) (fun _ => rfl) (fun D hD => ⟨Evl.Ex.new hD, rfl⟩) (fun D i H2 acc _ h => Evl.ex_l h.1 hS) (fun D i x H2 acc hD hx h1 h2 h3 => ?_) (fun D H2 acc hD h1 h3 => ?_)
    · obtain ⟨e, rfl⟩ := h3
      have hi : i < 63 := by
        have := lt_of_get hx
        rw [List.length_map] at this
        omega
      walk_at "rd"
      exact lc_end (by omega) h2 h1 ⟨Evl.Ex.mut e hD, (take_map hx).symm⟩
    · obtain ⟨e, rfl⟩ := h3
      rw [List.take_of_length_le (by rw [List.length_map]; omega)] at h1
      walk_at "rd"
      refine ⟨small (by show 6 ≤ 1000000; decide), fun p hp => ?_⟩
      have ne : D ≠ p := ne_of_none h1 hp
      refine q D p _ hD (Evl.fresh_back e hp) (e.trans (Evl.Ex.new hp)) ⟨ne, ?_, _, _, _, _, _, upd_same, Int.le_refl _⟩
      rw [upd_ne ne]
      exact h1
theorem can_pick (T : Bi mg) (F : Defd K mg "_law_pick" s_l_pick ["_law_draw_here", "_law_many"]) (C_l_mix : Can P w K mg base L2.CX0 1 "_law_mix" ["_law_cell", "_law_turn"] spMix) : Can P w K mg base L2.CX0 2 "_law_pick" ["_law_draw_here", "_law_many"] spPick := by
  refine can0 F sc_l_pick (fun vs H Q E h => ?_) (fun f cdv A outer s H vs Q E hr h => ⟨_, (pss_cons (ps_if (pt_cmpR op_lt (pv 1) pe_int (nomark _)) (pss_one (ps_ret pe_int)) pss_nil)
  (Evl.pss_cut (ps_if (PW.pt (pw_and (pt_cmpR op_eq (pe_ix ix_list (pv 0) pe_int (fun _ _ => rfl)) pe_int (nomark _)) (pw_and (pt_cmpR op_lt (pe_ix ix_list (pv 0) pe_int (fun _ _ => rfl)) (pe_callB call_lenQ (by rfl) T.b_len boot_len (pa_cons (pe_ix ix_list (pv 0) pe_int (fun _ _ => rfl)) pa_nil)) (nomark _)) (pw_and1 (pt_cmpR op_eq (pe_ix ix_list (pv 0) pe_int (fun _ _ => rfl)) pe_int (nomark _)))))) (pss_cons (ps_set (i := 2) sc_l_pick.nd rfl (by first | exact Or.inl rfl | exact Or.inr rfl) (pe_ix ix_list (pe_ix ix_list (pv 0) pe_int (fun _ _ => rfl)) (pe_ix ix_list (pv 0) pe_int (fun _ _ => rfl)) (fun _ _ => rfl)))
  (pss_one (ps_if (PW.pt (pw_or (pt_cmpR op_ge (pv 2) (pe_op op_powW pe_int pe_int) (nomark _)) (pw_or1 (pt_cmpR op_le (pv 2) (pe_un un_neg (pe_op op_powW pe_int pe_int)) (nomark _))))) (pss_cons (ps_asg (pe_op op_mod (pe_callTy call_intI (by rfl) T.b_int boot_int (pa_cons (pe_callB call_absI (by rfl) T.b_abs boot_abs (pa_cons (pv 2) pa_nil)) pa_nil)) (pe_op op_powW (pe_op op_powW pe_int pe_int) pe_int)) (pg_sub (pv 0) pe_int set_list))
  (pss_one (ps_asg (pe_op op_add (pe_ix ix_list (pv 0) pe_int (fun _ _ => rfl)) pe_int) (pg_sub (pv 0) pe_int set_list)))) pss_nil))) pss_nil)
  (pss_cons (ps_if (pt_cmpR op_gt (pe_ix ix_list (pv 0) pe_int (fun _ _ => rfl)) pe_int (nomark _)) (pss_cons (ps_set (i := 3) sc_l_pick.nd rfl (by first | exact Or.inl rfl | exact Or.inr rfl) (pe_op op_mod (pe_callTy call_intI (by rfl) T.b_int boot_int (pa_cons (pe_ix ix_list (pv 0) pe_int (fun _ _ => rfl)) pa_nil)) (pv 1)))
  (pss_cons (ps_asg (pe_op op_fdivW (pe_ix ix_list (pv 0) pe_int (fun _ _ => rfl)) (pv 1)) (pg_sub (pv 0) pe_int set_list))
  (pss_one (ps_ret (pv 3))))) pss_nil)
  (pss_cons (ps_if (pt_cmpR op_lt (pe_ix ix_list (pv 0) pe_int (fun _ _ => rfl)) (pe_callB call_lenQ (by rfl) T.b_len boot_len (pa_cons (pe_ix ix_list (pv 0) pe_int (fun _ _ => rfl)) pa_nil)) (nomark _)) (pss_cons (ps_set (i := 2) sc_l_pick.nd rfl (by first | exact Or.inl rfl | exact Or.inr rfl) (pe_ix ix_list (pe_ix ix_list (pv 0) pe_int (fun _ _ => rfl)) (pe_ix ix_list (pv 0) pe_int (fun _ _ => rfl)) (fun _ _ => rfl)))
  (pss_cons (ps_asg (pe_op op_add (pe_ix ix_list (pv 0) pe_int (fun _ _ => rfl)) pe_int) (pg_sub (pv 0) pe_int set_list))
  (pss_cons (ps_set (i := 4) sc_l_pick.nd rfl (by first | exact Or.inl rfl | exact Or.inr rfl) (pe_op op_mod (pe_callTy call_intI (by rfl) T.b_int boot_int (pa_cons (pe_can C_l_mix hr (by decide) rfl (pa_cons (pe_op op_add (pv 2) (pe_op op_mul pe_int (pe_ix ix_list (pv 0) pe_int (fun _ _ => rfl)))) (pa_cons (pe_ix ix_list (pv 0) pe_int (fun _ _ => rfl)) pa_nil))) pa_nil)) (pv 1)))
  (pss_cons (ps_if (pt_cmpR op_eq (pe_ix ix_list (pv 0) pe_int (fun _ _ => rfl)) pe_int (nomark _)) (pss_cons (ps_asg pe_int (pg_sub (pv 0) pe_int set_list))
  (pss_one (ps_asg (pe_op op_add (pe_ix ix_list (pv 0) pe_int (fun _ _ => rfl)) pe_int) (pg_sub (pv 0) pe_int set_list)))) pss_nil)
  (pss_one (ps_ret (pv 4))))))) pss_nil)
  (pss_cons (ps_asg (pe_op op_add (pe_ix ix_list (pv 0) pe_int (fun _ _ => rfl)) pe_int) (pg_sub (pv 0) pe_int set_list))
  (pss_one (ps_ret (pe_op op_mod (pe_callTy call_intI (by rfl) T.b_int boot_int (pa_cons (pe_can C_l_mix hr (by decide) rfl (pa_cons (pe_ix ix_list (pv 0) pe_int (fun _ _ => rfl)) (pa_cons (pe_op op_add (pe_ix ix_list (pv 0) pe_int (fun _ _ => rfl)) pe_int) pa_nil))) pa_nil)) (pv 1))))))))), ?_⟩)
  · obtain ⟨_, _, _, _, rfl, _⟩ := h
    rfl
  · obtain ⟨c, d, m, ns, rfl, hD, hm, q⟩ := h
    obtain ⟨i, n, big, cnt, b0, hd, hi⟩ := hD.ex
    have hc : SqL K H c (ns.map V.int) := Evl.sq_of hD.cells
    have hm9 : m.natAbs.log2 < 9000 ∨ m < 2 := by
      by_cases h2 : m < 2
      · exact .inr h2
      · left
        have h3 : m.natAbs < 2 ^ 200 := by omega
        have := PySem.Flt.log2_lt_of (by decide : 0 < 200) h3
        omega
    walk_at "rd"
    refine r_ite (fun h => ?_) (fun h => ?_)
    · walk_at "rd"
      exact q 0 H (Int.le_refl _) (.inr rfl) (Kp.refl _ _) hD
    walk_at "rd"
    refine r_cut (Mid := fun σ' H' => ∃ x2, σ' = [some (.ref d), some (.int m), x2, none, none] ∧ Kp d H H' ∧ Dr ns c d H') ?_ ?_
    · walk_at "rd"
      have end0 : ∀ x2, ∃ x3, [some (V.ref d), some (V.int m), x2, none, none] = [some (V.ref d), some (V.int m), x3, none, none] ∧ Kp d H H ∧ Dr ns c d H := fun x2 => ⟨x2, rfl, Kp.refl _ _, hD⟩
      refine r_ite (fun h1 => ?_) (fun h1 => ?_)
      · walk_at "rd"
        refine r_ite (fun h2 => ?_) (fun h2 => ?_)
        · obtain ⟨z, hz⟩ := cell_at hi h2
          walk_at "rd"
          refine r_ite (fun h3 => ?_) (fun h3 => ?_)
          · walk_at "rd"
            have big2 : ∃ x3 : Option V, [some (V.ref d), some (V.int m), some (V.int z), none, none] = [some (V.ref d), some (V.int m), x3, none, none] ∧ Kp d H (upd (upd H d (.lst [.ref c, .int i, .int ((if z < 0 then -z else z) % Big), .int cnt, .int n, .int b0])) d (.lst [.ref c, .int (i + 1), .int ((if z < 0 then -z else z) % Big), .int cnt, .int n, .int b0])) ∧ Dr ns c d (upd (upd H d (.lst [.ref c, .int i, .int ((if z < 0 then -z else z) % Big), .int cnt, .int n, .int b0])) d (.lst [.ref c, .int (i + 1), .int ((if z < 0 then -z else z) % Big), .int cnt, .int n, .int b0])) := ⟨_, rfl, kp2, hD.put2 (by omega)⟩
            refine r_ite (fun h4 => ?_) (fun h4 => ?_)
            · walk_at "rd"
              exact big2
            · walk_at "rd"
              refine r_ite (fun h5 => ?_) (fun h5 => ?_)
              · walk_at "rd"
                exact big2
              · walk_at "rd"
                exact end0 _
          · walk_at "rd"
            exact end0 _
        · walk_at "rd"
          exact end0 _
      · walk_at "rd"
        exact end0 _
    · rintro σ' H' ⟨x2, rfl, kp, hD'⟩
      clear hd hi hc
      obtain ⟨i, n, big, cnt, b0, hd, hi⟩ := hD'.ex
      have hc : SqL K H' c (ns.map V.int) := Evl.sq_of hD'.cells
      have hm0 : 0 < m := by omega
      have dv : CDivW big m := ⟨hm0, by omega⟩
      walk_at "rd"
      refine r_ite (fun h1 => ?_) (fun h1 => ?_)
      · walk_at "rd"
        exact q _ _ (Int.emod_nonneg _ (by omega)) (.inl (Int.emod_lt_of_pos _ hm0)) (kp.trans Kp.upd) (hD'.put hi)
      · walk_at "rd"
        refine r_ite (fun h2 => ?_) (fun h2 => ?_)
        · obtain ⟨z, hz⟩ := cell_at hi h2
          walk_at "rd"
          refine ⟨_, _, rfl, fun k => ?_⟩
          walk_at "rd"
          refine r_ite (fun h3 => ?_) (fun h3 => ?_)
          · walk_at "rd"
            exact q _ _ (Int.emod_nonneg _ (by omega)) (.inl (Int.emod_lt_of_pos _ hm0)) (kp.trans kp3) (hD'.put3 (by omega))
          · walk_at "rd"
            exact q _ _ (Int.emod_nonneg _ (by omega)) (.inl (Int.emod_lt_of_pos _ hm0)) (kp.trans Kp.upd) (hD'.put hi)
        · walk_at "rd"
          refine ⟨_, _, rfl, fun k => ?_⟩
          walk_at "rd"
          exact q _ _ (Int.emod_nonneg _ (by omega)) (.inl (Int.emod_lt_of_pos _ hm0)) (kp.trans Kp.upd) (hD'.put hi)
end
end Fk

set_option Elab.async false
set_option linter.all false
set_option maxRecDepth 100000
set_option maxHeartbeats 4000000
namespace Rt
open Fg
/-! ### a reader with a stack of its own, and that it tells what the other tells -/
abbrev Pr := Nat × List Nat
abbrev Frm := Nat × List Pr × Pr
structure Mst where
  stk : List Frm
  ps : List Pr
  p : Pr
  fl : Bool
  s : List Nat
def behind (a b : Pr) : Pr := (a.1 + b.1, kept (a.1 + b.1) (a.2 ++ b.2))
def often (t : Nat) (a : Pr) : Pr := (t * a.1, kept (t * a.1) (rep t a.2))
def many (ps : List Pr) : Nat := ps.foldl (fun a p => Nat.lcm a p.1) 1
def lit : List Pr → Nat → Nat
  | [], _ => 46
  | p :: ps, i => if (p.2[i % p.1]?).getD 0 ≠ 46 then (p.2[i % p.1]?).getD 0 else lit ps i
def togL (ps : List Pr) : Pr := (many ps, if many ps ≤ 24 then (List.range (many ps)).map (lit ps) else [])
def fill (p : Pr) (run : List Nat) : Option Pr := match run with
  | [] => none
  | d :: ds => if d = 48 then none else if 2 < (d :: ds).length ∨ 24 < dval (d :: ds) ∨ dval (d :: ds) < p.1 then none else some (dval (d :: ds), p.2 ++ List.replicate (dval (d :: ds) - p.1) 46)
def stands (fo : List Nat) : Bool := match fo with
  | [] => false
  | c :: _ => isSg c || decide (c = 40)
def tms (run fo : List Nat) : Option Int := match run with
  | [] => some 1
  | d :: ds => if d = 48 then none else if stands fo = false then some (-1) else if 2 < (d :: ds).length ∨ dval (d :: ds) < 2 ∨ 24 < dval (d :: ds) then none else some (dval (d :: ds) : Int)
theorem stands_one (c : Nat) : stands [c] = (isSg c || decide (c = 40)) := rfl
theorem tms_cons {d : Nat} {ds fo : List Nat} : tms (d :: ds) fo = if d = 48 then none else if stands fo = false then some (-1) else if 2 < (d :: ds).length ∨ dval (d :: ds) < 2 ∨ 24 < dval (d :: ds) then none else some (dval (d :: ds) : Int) := rfl
def step (m : Mst) : Except Nat Mst := match m.s with
  | [] => .error 0
  | c :: r =>
    if c = 38 ∨ c = 41 then
      if m.p.1 = 0 ∨ (c = 41 ∧ m.stk = []) then .error (r.length + 1)
      else if c = 38 then .ok ⟨m.stk, m.ps ++ [m.p], (0, []), false, r⟩
      else match m.stk with
        | [] => .error (r.length + 1)
        | (t, ps0, p0) :: k => .ok ⟨k, ps0, behind p0 (often t (togL (m.ps ++ [m.p]))), false, r⟩
    else if c = 64 then
      if m.fl = true ∨ m.p.1 = 0 then .error (r.length + 1)
      else match fill m.p (dsOf r) with
        | none => .error r.length
        | some q => .ok ⟨m.stk, m.ps, q, true, rsOf r⟩
    else match tms (dsOf (c :: r)) ((rsOf (c :: r)).take 1) with
      | none => .error (r.length + 1)
      | some t =>
        if m.fl = true then .error (r.length + 1)
        else if t = -1 ∨ stands ((rsOf (c :: r)).take 1) = false ∨ ((rsOf (c :: r)).take 1 = [40] ∧ (dsOf (c :: r) = [] ∨ m.stk.length = 6)) then .error (rsOf (c :: r)).length
        else if (rsOf (c :: r)).take 1 = [40] then .ok ⟨(t.toNat, m.ps, m.p) :: m.stk, [], (0, []), false, (rsOf (c :: r)).drop 1⟩
        else .ok ⟨m.stk, m.ps, behind m.p (often t.toNat (1, (rsOf (c :: r)).take 1)), false, (rsOf (c :: r)).drop 1⟩
inductive Out
  | bad (e : Nat)
  | long (n : Nat)
  | row (r : List Nat)
def final (m : Mst) : Out := if m.p.1 = 0 ∨ m.stk ≠ [] then .bad 0 else if 24 < (togL (m.ps ++ [m.p])).1 then .long (togL (m.ps ++ [m.p])).1 else .row (togL (m.ps ++ [m.p])).2
inductive Run : Mst → Out → Prop
  | fin {m : Mst} (h : m.s = []) : Run m (final m)
  | bad {m : Mst} {e : Nat} (h : m.s ≠ []) (hs : step m = .error e) : Run m (.bad e)
  | go {m m' : Mst} {o : Out} (h : m.s ≠ []) (hs : step m = .ok m') (r : Run m' o) : Run m o
/-! numbers of two digits and of more -/
theorem dval_one {d : Nat} : dval [d] = d - 48 := by
  show 10 * 0 + (d - 48) = d - 48
  omega
theorem dv3 {d : Nat} {ds : List Nat} (h48 : d ≠ 48) (hd : ∀ c ∈ d :: ds, isDig c = true) : (2 < (d :: ds).length → 100 ≤ dval ((d :: ds).take 3)) ∧ ((d :: ds).length ≤ 2 → (d :: ds).take 3 = d :: ds) := by
  have h1 := of_decide_eq_true (hd d (by simp))
  match ds with
  | [] => exact ⟨fun z => absurd z (by show ¬ 2 < 1; decide), fun _ => rfl⟩
  | [a] => exact ⟨fun z => absurd z (by show ¬ 2 < 2; decide), fun _ => rfl⟩
  | a :: b :: r =>
    refine ⟨fun _ => ?_, fun z => absurd z (by show ¬ r.length + 1 + 1 + 1 ≤ 2; omega)⟩
    show 100 ≤ 10 * (10 * (10 * 0 + (d - 48)) + (a - 48)) + (b - 48)
    omega
theorem tms_iff {d : Nat} {ds : List Nat} (h48 : d ≠ 48) (hd : ∀ c ∈ d :: ds, isDig c = true) : (¬ (2 < (d :: ds).length ∨ dval (d :: ds) < 2 ∨ 24 < dval (d :: ds)) ↔ 2 ≤ dval ((d :: ds).take 3) ∧ dval ((d :: ds).take 3) ≤ 24) ∧ (2 ≤ dval ((d :: ds).take 3) ∧ dval ((d :: ds).take 3) ≤ 24 → dval ((d :: ds).take 3) = dval (d :: ds)) := by
  obtain ⟨a, b⟩ := dv3 h48 hd
  by_cases h : 2 < (d :: ds).length
  · have := a h
    exact ⟨⟨fun z => absurd (.inl h) z, fun z => absurd z.2 (by omega)⟩, fun z => absurd z.2 (by omega)⟩
  · have e := b (by omega)
    rw [e]
    exact ⟨⟨fun z => by omega, fun z => by omega⟩, fun _ => rfl⟩
theorem fill_iff {p : Pr} {d : Nat} {ds : List Nat} (h48 : d ≠ 48) (hd : ∀ c ∈ d :: ds, isDig c = true) : (¬ (2 < (d :: ds).length ∨ 24 < dval (d :: ds) ∨ dval (d :: ds) < p.1) ↔ p.1 ≤ dval ((d :: ds).take 3) ∧ dval ((d :: ds).take 3) ≤ 24) ∧ (p.1 ≤ dval ((d :: ds).take 3) ∧ dval ((d :: ds).take 3) ≤ 24 → dval ((d :: ds).take 3) = dval (d :: ds)) := by
  obtain ⟨a, b⟩ := dv3 h48 hd
  by_cases h : 2 < (d :: ds).length
  · have := a h
    exact ⟨⟨fun z => absurd (.inl h) z, fun z => absurd z.2 (by omega)⟩, fun z => absurd z.2 (by omega)⟩
  · have e := b (by omega)
    rw [e]
    exact ⟨⟨fun z => by omega, fun z => by omega⟩, fun _ => rfl⟩
theorem sg_not {c : Nat} (h : isSg c = true) : c ≠ 38 ∧ c ≠ 41 ∧ c ≠ 64 ∧ c ≠ 40 ∧ isDig c = false := by
  have := of_decide_eq_true h
  rcases this with rfl | rfl | rfl | rfl <;> decide
theorem dig_not {c : Nat} (h : isDig c = true) : c ≠ 38 ∧ c ≠ 41 ∧ c ≠ 64 ∧ c ≠ 40 := by
  have := of_decide_eq_true h
  omega
theorem ds_nil {c : Nat} {r : List Nat} (h : isDig c = false) : dsOf (c :: r) = [] ∧ rsOf (c :: r) = c :: r := by
  unfold dsOf rsOf
  rw [List.takeWhile_cons, List.dropWhile_cons, h]
  exact ⟨rfl, rfl⟩
theorem ds_cons {c : Nat} {r : List Nat} (h : isDig c = true) : ∃ ds, dsOf (c :: r) = c :: ds := by
  unfold dsOf
  rw [List.takeWhile_cons, h]
  exact ⟨_, rfl⟩
theorem often_sign (t c : Nat) (h : t ≤ 24) : often t (1, [c]) = (t, List.replicate t c) := by
  unfold often kept rep
  show (t * 1, if t * 1 ≤ 24 then (List.replicate t [c]).flatten else []) = _
  rw [Nat.mul_one, if_pos h]
  congr 1
  induction t with
  | zero => rfl
  | succ t ih => rw [List.replicate_succ, List.flatten_cons, ih (by omega)]; rfl
/-! ### groups, items, parts -/
def GrpP (n : Nat) (top : Bool) (stk : List Frm) (s : List Nat) : Prop := match rdAt n top s with
  | .error e => Run ⟨stk, [], (0, []), false, s⟩ (.bad e)
  | .ok (s3, b3, r3) => s3.take 1 = endOf top ∧ ∃ ps p fl, p.1 ≠ 0 ∧ togL (ps ++ [p]) = (b3, r3) ∧ ∀ o, Run ⟨stk, ps, p, fl, s3⟩ o → Run ⟨stk, [], (0, []), false, s⟩ o
def ResP (f : Got → Prop) (e : Nat → Prop) (x : Res) : Prop := match x with
  | .error n => e n
  | .ok g => f g
theorem item_run {n : Nat} {stk : List Frm} {ps : List Pr} {b : Nat} {r s : List Nat} (hn : stk.length + n = 6) (hg : goes s = true) (G : ∀ n', n = n' + 1 → ∀ stk' s', stk'.length + n' = 6 → stk' ≠ [] → GrpP n' false stk' s') :
    ResP (fun g => ∀ o, Run ⟨stk, ps, (b + g.2.1, kept (b + g.2.1) (r ++ g.2.2)), false, g.1⟩ o → Run ⟨stk, ps, (b, r), false, s⟩ o) (fun e => Run ⟨stk, ps, (b, r), false, s⟩ (.bad e)) (rdItem (innerOf n) s) := by
  cases s with
  | nil => cases hg
  | cons c t =>
    have hg' : (isSg c || isDig c) = true := hg
    have ne : (⟨stk, ps, (b, r), false, c :: t⟩ : Mst).s ≠ [] := fun z => nomatch z
    by_cases hdig : isDig c = true
    · obtain ⟨n1, n2, n3, n4⟩ := dig_not hdig
      obtain ⟨ds, hds⟩ := ds_cons (r := t) hdig
      have hall : ∀ x ∈ c :: ds, isDig x = true := by rw [← hds]; exact ds_dig _
      have est : step ⟨stk, ps, (b, r), false, c :: t⟩ = match tms (c :: ds) ((rsOf (c :: t)).take 1) with
          | none => .error (t.length + 1)
          | some k =>
            if k = -1 ∨ stands ((rsOf (c :: t)).take 1) = false ∨ ((rsOf (c :: t)).take 1 = [40] ∧ (c :: ds = [] ∨ stk.length = 6)) then .error (rsOf (c :: t)).length
            else if (rsOf (c :: t)).take 1 = [40] then .ok ⟨(k.toNat, ps, (b, r)) :: stk, [], (0, []), false, (rsOf (c :: t)).drop 1⟩
            else .ok ⟨stk, ps, behind (b, r) (often k.toNat (1, (rsOf (c :: t)).take 1)), false, (rsOf (c :: t)).drop 1⟩ := by
        unfold step
        show (if c = 38 ∨ c = 41 then _ else _) = _
        rw [if_neg (by omega), if_neg n3, hds]
        cases tms (c :: ds) ((rsOf (c :: t)).take 1) with
        | none => rfl
        | some k =>
          show (if false = true then _ else _) = _
          rw [if_neg (by decide)]
      unfold rdItem
      rw [hds]
      show ResP _ _ (if c = 48 then _ else _)
      by_cases h48 : c = 48
      · rw [if_pos h48]
        refine Run.bad ne ?_
        rw [est]
        rw [tms_cons]
        rw [if_pos h48]
        rfl
      rw [if_neg h48]
      obtain ⟨i1, i2⟩ := tms_iff h48 hall
      cases hrs : rsOf (c :: t) with
      | nil =>
        refine Run.bad ne ?_
        rw [est, hrs]
        rw [tms_cons]
        rw [if_neg h48]
        rfl
      | cons c2 r2 =>
        rw [hrs] at est
        show ResP _ _ (if isSg c2 = true then _ else _)
        have tk : (c2 :: r2).take 1 = [c2] := rfl
        have dk : (c2 :: r2).drop 1 = r2 := rfl
        rw [tk, dk] at est
        by_cases hsg : isSg c2 = true
        · rw [if_pos hsg]
          have hst : stands [c2] = true := by rw [stands_one, hsg]; rfl
          by_cases ht : 2 ≤ dval ((c :: ds).take 3) ∧ dval ((c :: ds).take 3) ≤ 24
          · rw [if_pos ht]
            intro o ho
            have et : tms (c :: ds) [c2] = some (dval (c :: ds) : Int) := by
              rw [tms_cons]
              rw [if_neg h48, if_neg (by rw [hst]; decide), if_neg (i1.mpr ht)]
            have e3 := i2 ht
            rw [et] at est
            have est2 : step ⟨stk, ps, (b, r), false, c :: t⟩ = .ok ⟨stk, ps, behind (b, r) (often (dval (c :: ds)) (1, [c2])), false, r2⟩ := by
              rw [est]
              show (if _ then _ else _) = _
              rw [if_neg (by
                rintro (z | z | ⟨z, _⟩)
                · omega
                · rw [hst] at z; cases z
                · cases z; exact (sg_not hsg).2.2.2.1 rfl), if_neg (by intro z; cases z; exact (sg_not hsg).2.2.2.1 rfl), Int.toNat_natCast]
            refine Run.go ne est2 ?_
            rw [often_sign _ _ (by rw [← e3]; exact ht.2), ← e3]
            exact ho
          · rw [if_neg ht]
            refine Run.bad ne ?_
            rw [est]
            rw [tms_cons]
            rw [if_neg h48, if_neg (by rw [hst]; decide), if_pos (Classical.not_not.mp fun z => ht (i1.mp z))]
            rfl
        · rw [if_neg hsg]
          by_cases h40 : c2 = 40
          · subst h40
            show ResP _ _ (if 40 = 40 then _ else _)
            rw [if_pos rfl]
            have hst : stands [40] = true := rfl
            by_cases ht : 2 ≤ dval ((c :: ds).take 3) ∧ dval ((c :: ds).take 3) ≤ 24
            · rw [if_pos ht]
              have et : tms (c :: ds) [40] = some (dval (c :: ds) : Int) := by
                rw [tms_cons]
                rw [if_neg h48, if_neg (by rw [hst]; decide), if_neg (i1.mpr ht)]
              have e3 := i2 ht
              rw [et] at est
              cases n with
              | zero =>
                refine Run.bad ne ?_
                rw [est]
                show (if _ then _ else _) = _
                rw [if_pos (.inr (.inr ⟨rfl, .inr hn⟩))]
                rfl
              | succ n =>
                have est2 : step ⟨stk, ps, (b, r), false, c :: t⟩ = .ok ⟨(dval (c :: ds), ps, (b, r)) :: stk, [], (0, []), false, r2⟩ := by
                  rw [est]
                  show (if _ then _ else _) = _
                  rw [if_neg (by
                    rintro (z | z | ⟨_, z | z⟩)
                    · omega
                    · cases z
                    · cases z
                    · omega), if_pos rfl, Int.toNat_natCast]
                have hG := G n rfl ((dval (c :: ds), ps, (b, r)) :: stk) r2 (by rw [List.length_cons]; omega) (fun z => nomatch z)
                unfold GrpP at hG
                show ResP _ _ (match rdAt n false r2 with
                  | .error e => .error e
                  | .ok (r3, b3, row) => .ok (r3.drop 1, dval ((c :: ds).take 3) * b3, kept (dval ((c :: ds).take 3) * b3) (rep (dval ((c :: ds).take 3)) row)))
                cases hr : rdAt n false r2 with
                | error e =>
                  rw [hr] at hG
                  exact Run.go ne est2 hG
                | ok g =>
                  rw [hr] at hG
                  obtain ⟨r3, b3, row⟩ := g
                  obtain ⟨h1, ps', p, fl, hp, htog, hrun⟩ := hG
                  intro o ho
                  refine Run.go ne est2 (hrun o ?_)
                  cases r3 with
                  | nil => cases h1
                  | cons x r4 =>
                    have hx : x = 41 := by
                      have : [x] = [41] := h1
                      injection this
                    subst hx
                    refine Run.go (fun z => nomatch z) (m' := ⟨stk, ps, behind (b, r) (often (dval (c :: ds)) (togL (ps' ++ [p]))), false, r4⟩) ?_ ?_
                    · unfold step
                      show (if (41 : Nat) = 38 ∨ (41 : Nat) = 41 then _ else _) = _
                      rw [if_pos (.inr rfl), if_neg (by rintro (z | ⟨_, z⟩); exact hp z; cases z), if_neg (by decide)]
                    · rw [htog, ← e3]
                      exact ho
            · rw [if_neg ht]
              refine Run.bad ne ?_
              rw [est]
              rw [tms_cons]
              rw [if_neg h48, if_neg (by rw [hst]; decide), if_pos (Classical.not_not.mp fun z => ht (i1.mp z))]
              rfl
          · rw [if_neg h40]
            have hst : stands [c2] = false := by
              rw [stands_one, Bool.eq_false_iff.mpr hsg, decide_eq_false h40]
              rfl
            refine Run.bad ne ?_
            rw [est]
            rw [tms_cons]
            rw [if_neg h48, if_pos hst]
            rfl
    · have hsg : isSg c = true := by
        rcases Bool.or_eq_true_iff.mp hg' with z | z
        · exact z
        · exact absurd z hdig
      obtain ⟨n1, n2, n3, n4, n5⟩ := sg_not hsg
      obtain ⟨e1, e2⟩ := ds_nil (r := t) n5
      unfold rdItem
      rw [e1]
      intro o ho
      refine Run.go ne (m' := ⟨stk, ps, behind (b, r) (often 1 (1, [c])), false, t⟩) ?_ ?_
      · unfold step
        show (if c = 38 ∨ c = 41 then _ else _) = _
        rw [if_neg (by omega), if_neg n3, e1, e2]
        show (if false = true then _ else _) = _
        have hst : stands [c] = true := by rw [stands_one, hsg]; rfl
        rw [if_neg (by decide)]
        refine (if_neg ?_).trans ?_
        · rintro (z | z | ⟨z, _⟩)
          · cases z
          · rw [show ((c :: t).take 1 : List Nat) = [c] from rfl, hst] at z; cases z
          · cases z; exact n4 rfl
        refine (if_neg ?_).trans ?_
        · intro z; cases z; exact n4 rfl
        rfl
      · rw [often_sign 1 c (by decide)]
        exact ho
end Rt

set_option Elab.async false
set_option linter.all false
set_option maxRecDepth 100000
set_option maxHeartbeats 4000000
namespace Rt
open Fg
theorem items_run {n : Nat} {stk : List Frm} {ps : List Pr} (hn : stk.length + n = 6) (G : ∀ n', n = n' + 1 → ∀ stk' s', stk'.length + n' = 6 → stk' ≠ [] → GrpP n' false stk' s') : ∀ (f : Nat) (s : List Nat) (b : Nat) (r : List Nat), s.length ≤ f →
    ResP (fun g => goes g.1 = false ∧ ∀ o, Run ⟨stk, ps, (g.2.1, g.2.2), false, g.1⟩ o → Run ⟨stk, ps, (b, r), false, s⟩ o) (fun e => Run ⟨stk, ps, (b, r), false, s⟩ (.bad e)) (rdItems (rdItem (innerOf n)) f s b r)
  | 0, s, b, r, h => by
    have : s = [] := List.length_eq_zero_iff.mp (by omega)
    subst this
    exact ⟨rfl, fun o ho => ho⟩
  | f + 1, s, b, r, h => by
    show ResP _ _ (if goes s = true then _ else _)
    by_cases hg : goes s = true
    · rw [if_pos hg]
      have hi := item_run (ps := ps) (b := b) (r := r) hn hg G
      cases hit : rdItem (innerOf n) s with
      | error e =>
        rw [hit] at hi
        exact hi
      | ok g =>
        rw [hit] at hi
        obtain ⟨s2, m, gr⟩ := g
        obtain ⟨k, k1, k2, k3, _⟩ := (ok_item (inner_ok n) s (s2, m, gr) hg hit).suf
        have k3' : s2 = s.drop k := k3
        have hlen : s2.length ≤ f := by rw [k3', List.length_drop]; omega
        have ih := items_run (ps := ps) hn G f s2 (b + m) (kept (b + m) (r ++ gr)) hlen
        show ResP _ _ (rdItems (rdItem (innerOf n)) f s2 (b + m) (kept (b + m) (r ++ gr)))
        cases hx : rdItems (rdItem (innerOf n)) f s2 (b + m) (kept (b + m) (r ++ gr)) with
        | error e =>
          rw [hx] at ih
          exact hi _ ih
        | ok g2 =>
          rw [hx] at ih
          exact ⟨ih.1, fun o ho => hi o (ih.2 o ho)⟩
    · rw [if_neg hg]
      exact ⟨Bool.eq_false_iff.mpr hg, fun o ho => ho⟩
theorem goes_not {c : Nat} {r : List Nat} (h : goes (c :: r) = false) : isSg c = false ∧ isDig c = false := by
  have h' : (isSg c || isDig c) = false := h
  exact Bool.or_eq_false_iff.mp h'
/-- what cannot stand behind items, though no sign and no number -/
theorem else_bad {m : Mst} {c : Nat} {r : List Nat} (hs : m.s = c :: r) (h38 : c ≠ 38) (h41 : c ≠ 41) (h64 : c ≠ 64) (hg : goes (c :: r) = false) : step m = .error (r.length + 1) := by
  obtain ⟨g1, g2⟩ := goes_not hg
  obtain ⟨e1, e2⟩ := ds_nil (r := r) g2
  unfold step
  rw [hs]
  refine (if_neg (by omega)).trans ((if_neg h64).trans ?_)
  rw [e1, e2]
  show (if m.fl = true then _ else _) = _
  by_cases hf : m.fl = true
  · rw [if_pos hf]
  · rw [if_neg hf]
    refine (if_pos ?_).trans ?_
    · by_cases h40 : c = 40
      · subst h40
        exact .inr (.inr ⟨rfl, .inl rfl⟩)
      · refine .inr (.inl ?_)
        rw [show ((c :: r).take 1 : List Nat) = [c] from rfl, stands_one, g1, decide_eq_false h40]
        rfl
    · rfl
/-- a part without items -/
theorem stop0 {stk : List Frm} {ps : List Pr} {r s : List Nat} (hg : goes s = false) : Run ⟨stk, ps, (0, r), false, s⟩ (.bad s.length) := by
  cases s with
  | nil =>
    have := Run.fin (m := ⟨stk, ps, (0, r), false, []⟩) rfl
    unfold final at this
    rw [if_pos (.inl rfl)] at this
    exact this
  | cons c t =>
    refine Run.bad (fun z => nomatch z) ?_
    by_cases h : c = 38 ∨ c = 41
    · unfold step
      exact (if_pos h).trans (if_pos (.inl rfl))
    · by_cases h64 : c = 64
      · unfold step
        exact (if_neg h).trans ((if_pos h64).trans (if_pos (.inr rfl)))
      · exact else_bad rfl (by omega) (by omega) h64 hg
/-- what cannot stand behind a part -/
theorem stop1 {stk : List Frm} {ps : List Pr} {p : Pr} {fl : Bool} {s : List Nat} (hp : p.1 ≠ 0) (hf : fl = false → goes s = false ∧ s.take 1 ≠ [64]) (h38 : s.take 1 ≠ [38]) (he : s.take 1 ≠ endOf (decide (stk = []))) : Run ⟨stk, ps, p, fl, s⟩ (.bad s.length) := by
  cases s with
  | nil =>
    have hk : stk ≠ [] := fun z => by
      rw [decide_eq_true z] at he
      exact he rfl
    have := Run.fin (m := ⟨stk, ps, p, fl, []⟩) rfl
    unfold final at this
    rw [if_pos (.inr hk)] at this
    exact this
  | cons c t =>
    have h38' : c ≠ 38 := fun z => h38 (by rw [z]; rfl)
    refine Run.bad (fun z => nomatch z) ?_
    by_cases h41 : c = 41
    · have hk : stk = [] := by
        by_cases z : stk = []
        · exact z
        · rw [decide_eq_false z, h41] at he
          exact absurd rfl he
      unfold step
      exact (if_pos (.inr h41)).trans (if_pos (.inr ⟨h41, hk⟩))
    · cases fl with
      | false =>
        obtain ⟨g, g64⟩ := hf rfl
        exact else_bad rfl h38' h41 (fun z => g64 (by rw [z]; rfl)) g
      | true =>
        unfold step
        refine (if_neg (by omega)).trans ?_
        by_cases h64 : c = 64
        · exact (if_pos h64).trans (if_pos (.inl rfl))
        · refine (if_neg h64).trans ?_
          show (match tms (dsOf (c :: t)) ((rsOf (c :: t)).take 1) with
            | none => _
            | some k => if true = true then _ else _) = _
          cases tms (dsOf (c :: t)) ((rsOf (c :: t)).take 1) with
          | none => rfl
          | some k => rfl
theorem part_run {n : Nat} {stk : List Frm} {ps : List Pr} (hn : stk.length + n = 6) (G : ∀ n', n = n' + 1 → ∀ stk' s', stk'.length + n' = 6 → stk' ≠ [] → GrpP n' false stk' s') (s : List Nat) :
    ResP (fun g => g.2.1 ≠ 0 ∧ ∃ fl, (fl = false → goes g.1 = false ∧ g.1.take 1 ≠ [64]) ∧ ∀ o, Run ⟨stk, ps, (g.2.1, g.2.2), fl, g.1⟩ o → Run ⟨stk, ps, (0, []), false, s⟩ o) (fun e => Run ⟨stk, ps, (0, []), false, s⟩ (.bad e)) (rdPart (rdItem (innerOf n)) s) := by
  have hi := items_run (ps := ps) hn G s.length s 0 [] (Nat.le_refl _)
  unfold rdPart
  cases hx : rdItems (rdItem (innerOf n)) s.length s 0 [] with
  | error e =>
    rw [hx] at hi
    exact hi
  | ok g =>
    rw [hx] at hi
    obtain ⟨s2, b, r⟩ := g
    obtain ⟨hg, hrun⟩ := hi
    show ResP _ _ (if b = 0 then _ else _)
    by_cases hb : b = 0
    · rw [if_pos hb]
      subst hb
      exact hrun _ (stop0 hg)
    · rw [if_neg hb]
      cases s2 with
      | nil => exact ⟨hb, false, fun _ => ⟨rfl, fun z => nomatch z⟩, hrun⟩
      | cons c s3 =>
        show ResP _ _ (if c = 64 then _ else _)
        by_cases h64 : c = 64
        · rw [if_pos h64]
          subst h64
          have est : step ⟨stk, ps, (b, r), false, 64 :: s3⟩ = match fill (b, r) (dsOf s3) with
              | none => .error s3.length
              | some q => .ok ⟨stk, ps, q, true, rsOf s3⟩ := by
            unfold step
            exact (if_neg (by decide)).trans ((if_pos rfl).trans (if_neg (by rintro (z | z); cases z; exact hb z)))
          have ne : (⟨stk, ps, (b, r), false, 64 :: s3⟩ : Mst).s ≠ [] := fun z => nomatch z
          unfold rdWhole
          cases hds : dsOf s3 with
          | nil =>
            rw [hds] at est
            exact hrun _ (Run.bad ne est)
          | cons d ds =>
            rw [hds] at est
            have hall : ∀ x ∈ d :: ds, isDig x = true := by rw [← hds]; exact ds_dig _
            show ResP _ _ (if d = 48 then _ else _)
            by_cases h48 : d = 48
            · rw [if_pos h48]
              refine hrun _ (Run.bad ne ?_)
              rw [est]
              rw [show fill (b, r) (d :: ds) = none from if_pos h48]
            · rw [if_neg h48]
              obtain ⟨i1, i2⟩ := fill_iff (p := (b, r)) h48 hall
              have ef : fill (b, r) (d :: ds) = if 2 < (d :: ds).length ∨ 24 < dval (d :: ds) ∨ dval (d :: ds) < b then none else some (dval (d :: ds), r ++ List.replicate (dval (d :: ds) - b) 46) := if_neg h48
              by_cases hw : b ≤ dval ((d :: ds).take 3) ∧ dval ((d :: ds).take 3) ≤ 24
              · rw [if_pos hw]
                have e3 := i2 hw
                rw [ef, if_neg (i1.mpr hw)] at est
                refine ⟨fun z => ?_, true, (fun z => nomatch z), fun o ho => hrun o (Run.go ne est ?_)⟩
                · have z' : dval ((d :: ds).take 3) = 0 := z
                  omega
                · rw [← e3]
                  exact ho
              · rw [if_neg hw]
                refine hrun _ (Run.bad ne ?_)
                rw [est, ef, if_pos (Classical.not_not.mp fun z => hw (i1.mp z))]
        · rw [if_neg h64]
          exact ⟨hb, false, fun _ => ⟨hg, fun z => h64 (by injection z)⟩, hrun⟩
/-! ### parts together -/
theorem many_snoc (ps : List Pr) (q : Pr) : many (ps ++ [q]) = Nat.lcm (many ps) q.1 := by
  unfold many
  rw [List.foldl_append]
  rfl
theorem many_dvd : ∀ (ps : List Pr) (a : Nat), a ∣ ps.foldl (fun a p => Nat.lcm a p.1) a ∧ ∀ p ∈ ps, p.1 ∣ ps.foldl (fun a p => Nat.lcm a p.1) a
  | [], a => ⟨Nat.dvd_refl a, fun p h => nomatch h⟩
  | q :: ps, a => by
    obtain ⟨h1, h2⟩ := many_dvd ps (Nat.lcm a q.1)
    refine ⟨Nat.dvd_trans (Nat.dvd_lcm_left _ _) h1, fun p hp => ?_⟩
    rcases List.mem_cons.mp hp with z | z
    · rw [z]; exact Nat.dvd_trans (Nat.dvd_lcm_right _ _) h1
    · exact h2 p z
theorem many_pos (ps : List Pr) (h : ∀ p ∈ ps, p.1 ≠ 0) : 1 ≤ many ps := by
  have key : ∀ (ps : List Pr) (a : Nat), 1 ≤ a → (∀ p ∈ ps, p.1 ≠ 0) → 1 ≤ ps.foldl (fun a p => Nat.lcm a p.1) a := by
    intro ps
    induction ps with
    | nil => intro a ha _; exact ha
    | cons q ps ih => intro a ha h; exact ih _ (Nat.lcm_pos ha (Nat.pos_of_ne_zero (h q (by simp)))) (fun p hp => h p (by simp [hp]))
  exact key ps 1 (Nat.le_refl _) h
theorem lit_mod {m : Nat} : ∀ (ps : List Pr) (i : Nat), (∀ p ∈ ps, p.1 ∣ m) → lit ps (i % m) = lit ps i
  | [], _, _ => rfl
  | p :: ps, i, h => by
    have e : i % m % p.1 = i % p.1 := Nat.mod_mod_of_dvd _ (h p (by simp))
    show (if (p.2[i % m % p.1]?).getD 0 ≠ 46 then _ else lit ps (i % m)) = _
    rw [e, lit_mod ps i fun q hq => h q (by simp [hq])]
    rfl
theorem lit_snoc : ∀ (ps : List Pr) (q : Pr) (i : Nat), lit (ps ++ [q]) i = if lit ps i = 46 then (q.2[i % q.1]?).getD 0 else lit ps i
  | [], q, i => by
    have e : lit [] i = 46 := rfl
    rw [if_pos e]
    show (if (q.2[i % q.1]?).getD 0 ≠ 46 then (q.2[i % q.1]?).getD 0 else 46) = (q.2[i % q.1]?).getD 0
    by_cases h : (q.2[i % q.1]?).getD 0 = 46
    · rw [if_neg (fun z => z h), h]
    · rw [if_pos h]
  | p :: ps, q, i => by
    show (if (p.2[i % p.1]?).getD 0 ≠ 46 then (p.2[i % p.1]?).getD 0 else lit (ps ++ [q]) i) = if (if (p.2[i % p.1]?).getD 0 ≠ 46 then (p.2[i % p.1]?).getD 0 else lit ps i) = 46 then _ else (if (p.2[i % p.1]?).getD 0 ≠ 46 then (p.2[i % p.1]?).getD 0 else lit ps i)
    rw [lit_snoc ps q i]
    by_cases h : (p.2[i % p.1]?).getD 0 ≠ 46
    · rw [if_pos h, if_pos h, if_neg h]
    · rw [if_neg h, if_neg h]
theorem togL_snoc {ps : List Pr} {q : Pr} {b : Nat} {r : List Nat} (hp : ∀ p ∈ ps, p.1 ≠ 0) (hq : q.1 ≠ 0) (h : togL ps = (b, r)) : togL (ps ++ [q]) = (Nat.lcm b q.1, tog b r q.1 q.2) := by
  unfold togL at h ⊢
  have hb : many ps = b := congrArg Prod.fst h
  have hr : (if many ps ≤ 24 then (List.range (many ps)).map (lit ps) else []) = r := congrArg Prod.snd h
  rw [many_snoc, hb]
  rw [hb] at hr
  have b1 : 1 ≤ b := by rw [← hb]; exact many_pos ps hp
  refine Prod.ext rfl ?_
  show (if Nat.lcm b q.1 ≤ 24 then _ else _) = tog b r q.1 q.2
  unfold tog
  by_cases h24 : Nat.lcm b q.1 ≤ 24
  · rw [if_pos h24, if_pos h24]
    have b24 : b ≤ 24 := Nat.le_trans (Nat.le_of_dvd (Nat.lcm_pos b1 (Nat.pos_of_ne_zero hq)) (Nat.dvd_lcm_left _ _)) h24
    rw [if_pos b24] at hr
    apply List.map_congr_left
    intro i _
    have hg : (r[i % b]?).getD 0 = lit ps i := by
      rw [← hr, List.getElem?_map, List.getElem?_range (Nat.mod_lt _ b1)]
      show lit ps (i % b) = lit ps i
      exact lit_mod ps i fun p h => by rw [← hb]; exact (many_dvd ps 1).2 p h
    rw [lit_snoc, hg]
  · rw [if_neg h24, if_neg h24]
theorem togL_one {b : Nat} {r : List Nat} (h1 : b ≤ 24 → r.length = b) (h2 : 24 < b → r = []) (hb : b ≠ 0) : togL [(b, r)] = (b, r) := by
  unfold togL
  have e : many [(b, r)] = b := Nat.lcm_one_left b
  rw [e]
  refine Prod.ext rfl ?_
  show (if b ≤ 24 then _ else _) = r
  by_cases h : b ≤ 24
  · rw [if_pos h]
    have hl := h1 h
    apply List.ext_getElem?
    intro i
    rw [List.getElem?_map]
    by_cases hi : i < b
    · rw [List.getElem?_range hi, List.getElem?_eq_getElem (by omega)]
      show some (if (r[i % b]?).getD 0 ≠ 46 then (r[i % b]?).getD 0 else 46) = _
      rw [Nat.mod_eq_of_lt hi, List.getElem?_eq_getElem (by omega)]
      show some (if r[i] ≠ 46 then r[i] else 46) = some r[i]
      by_cases z : r[i] = 46
      · rw [if_neg (fun w => w z), z]
      · rw [if_pos z]
    · rw [List.getElem?_eq_none (by rw [List.length_range]; omega), List.getElem?_eq_none (by omega)]
      rfl
  · rw [if_neg h, h2 (by omega)]
theorem join_run {n : Nat} {stk : List Frm} (hn : stk.length + n = 6) (G : ∀ n', n = n' + 1 → ∀ stk' s', stk'.length + n' = 6 → stk' ≠ [] → GrpP n' false stk' s') : ∀ (f : Nat) (s : List Nat) (P : List Pr) (p : Pr) (fl : Bool) (b : Nat) (r : List Nat), s.length ≤ f → p.1 ≠ 0 → (∀ q ∈ P, q.1 ≠ 0) → togL (P ++ [p]) = (b, r) → (fl = false → goes s = false ∧ s.take 1 ≠ [64]) →
    ResP (fun g => g.1.take 1 ≠ [38] ∧ ∃ P' p' fl', p'.1 ≠ 0 ∧ (fl' = false → goes g.1 = false ∧ g.1.take 1 ≠ [64]) ∧ togL (P' ++ [p']) = (g.2.1, g.2.2) ∧ ∀ o, Run ⟨stk, P', p', fl', g.1⟩ o → Run ⟨stk, P, p, fl, s⟩ o) (fun e => Run ⟨stk, P, p, fl, s⟩ (.bad e)) (rdJoin (rdPart (rdItem (innerOf n))) f s b r)
  | 0, s, P, p, fl, b, r, h, hp, hP, ht, hf => by
    have : s = [] := List.length_eq_zero_iff.mp (by omega)
    subst this
    exact ⟨(fun z => nomatch z), P, p, fl, hp, hf, ht, fun o ho => ho⟩
  | f + 1, s, P, p, fl, b, r, h, hp, hP, ht, hf => by
    cases s with
    | nil => exact ⟨(fun z => nomatch z), P, p, fl, hp, hf, ht, fun o ho => ho⟩
    | cons c s2 =>
      show ResP _ _ (if c = 38 then _ else _)
      by_cases h38 : c = 38
      · rw [if_pos h38]
        subst h38
        have est : step ⟨stk, P, p, fl, 38 :: s2⟩ = .ok ⟨stk, P ++ [p], (0, []), false, s2⟩ := by
          unfold step
          exact (if_pos (.inl rfl)).trans ((if_neg (by rintro (z | ⟨z, _⟩); exact hp z; cases z)).trans (if_pos rfl))
        have ne : (⟨stk, P, p, fl, 38 :: s2⟩ : Mst).s ≠ [] := fun z => nomatch z
        have hpr := part_run (ps := P ++ [p]) hn G s2
        cases hx : rdPart (rdItem (innerOf n)) s2 with
        | error e =>
          rw [hx] at hpr
          exact Run.go ne est hpr
        | ok g =>
          rw [hx] at hpr
          obtain ⟨s3, b2, r2⟩ := g
          obtain ⟨h2, fl2, hf2, hrun⟩ := hpr
          have h2' : b2 ≠ 0 := h2
          have F := ok_part (ok_item (inner_ok n)) s2 (s3, b2, r2) trivial hx
          obtain ⟨k, k1, k2, k3, _⟩ := F.suf
          have k3' : s3 = s2.drop k := k3
          have hl : s3.length ≤ f := by rw [k3', List.length_drop]; rw [List.length_cons] at h; omega
          have hall : ∀ q ∈ P ++ [p], q.1 ≠ 0 := fun q hq => by
            rcases List.mem_append.mp hq with z | z
            · exact hP q z
            · have : q = p := by simpa using z
              rw [this]; exact hp
          have ih := join_run hn G f s3 (P ++ [p]) (b2, r2) fl2 (Nat.lcm b b2) (tog b r b2 r2) hl h2' hall (togL_snoc hall h2' ht) hf2
          show ResP _ _ (rdJoin (rdPart (rdItem (innerOf n))) f s3 (Nat.lcm b b2) (tog b r b2 r2))
          cases hy : rdJoin (rdPart (rdItem (innerOf n))) f s3 (Nat.lcm b b2) (tog b r b2 r2) with
          | error e =>
            rw [hy] at ih
            exact Run.go ne est (hrun _ ih)
          | ok g2 =>
            rw [hy] at ih
            obtain ⟨i1, P', p', fl', i2, i3, i4, i5⟩ := ih
            exact ⟨i1, P', p', fl', i2, i3, i4, fun o ho => Run.go ne est (hrun o (i5 o ho))⟩
      · rw [if_neg h38]
        exact ⟨fun z => h38 (by injection z), P, p, fl, hp, hf, ht, fun o ho => ho⟩
theorem parts_run {n : Nat} {stk : List Frm} (hn : stk.length + n = 6) (G : ∀ n', n = n' + 1 → ∀ stk' s', stk'.length + n' = 6 → stk' ≠ [] → GrpP n' false stk' s') (s : List Nat) : GrpP n (decide (stk = [])) stk s := by
  unfold GrpP
  rw [rdAt_eq]
  unfold rdParts
  have hpr := part_run (ps := []) hn G s
  cases hx : rdPart (rdItem (innerOf n)) s with
  | error e =>
    rw [hx] at hpr
    exact hpr
  | ok g =>
    rw [hx] at hpr
    obtain ⟨s2, b, r⟩ := g
    obtain ⟨h2, fl2, hf2, hrun⟩ := hpr
    have h2' : b ≠ 0 := h2
    have F := ok_part (ok_item (inner_ok n)) s (s2, b, r) trivial hx
    have ht : togL ([] ++ [(b, r)]) = (b, r) := togL_one (fun z => (F.row z).1) (fun z => F.non z) h2'
    have ih := join_run hn G s2.length s2 [] (b, r) fl2 b r (Nat.le_refl _) h2' (fun q hq => nomatch hq) ht hf2
    show (match (match rdJoin (rdPart (rdItem (innerOf n))) s2.length s2 b r with
      | .error e => (.error e : Res)
      | .ok (s3, b3, r3) => if s3.take 1 = endOf (decide (stk = [])) then .ok (s3, b3, r3) else .error s3.length) with
      | .error e => _
      | .ok (s3, b3, r3) => _)
    cases hy : rdJoin (rdPart (rdItem (innerOf n))) s2.length s2 b r with
    | error e =>
      rw [hy] at ih
      exact hrun _ ih
    | ok g2 =>
      rw [hy] at ih
      obtain ⟨s3, b3, r3⟩ := g2
      obtain ⟨i1, P', p', fl', i2, i3, i4, i5⟩ := ih
      by_cases he : s3.take 1 = endOf (decide (stk = []))
      · show (match (if s3.take 1 = endOf (decide (stk = [])) then (.ok (s3, b3, r3) : Res) else .error s3.length) with
          | .error e => _
          | .ok (s3, b3, r3) => _)
        rw [if_pos he]
        exact ⟨he, P', p', fl', i2, i4, fun o ho => hrun o (i5 o ho)⟩
      · show (match (if s3.take 1 = endOf (decide (stk = [])) then (.ok (s3, b3, r3) : Res) else .error s3.length) with
          | .error e => _
          | .ok (s3, b3, r3) => _)
        rw [if_neg he]
        exact hrun _ (i5 _ (stop1 i2 i3 i1 he))
theorem grp_run : ∀ (n : Nat) (stk : List Frm) (s : List Nat), stk.length + n = 6 → GrpP n (decide (stk = [])) stk s
  | 0, stk, s, h => parts_run h (fun n' e => nomatch e) s
  | n + 1, stk, s, h => parts_run h (fun n' e stk' s' h' hne => by
      cases e
      have := grp_run n stk' s' h'
      rw [decide_eq_false hne] at this
      exact this) s
def expect (l : List Nat) : Out := match rdAt 6 true l with
  | .error e => .bad e
  | .ok (_, b, r) => if 24 < b then .long b else .row r
theorem reads (l : List Nat) : Run ⟨[], [], (0, []), false, l⟩ (expect l) := by
  have h := grp_run 6 [] l rfl
  unfold GrpP at h
  unfold expect
  rw [decide_eq_true rfl] at h
  cases hx : rdAt 6 true l with
  | error e =>
    rw [hx] at h
    exact h
  | ok g =>
    rw [hx] at h
    obtain ⟨s3, b, r⟩ := g
    obtain ⟨h1, ps, p, fl, hp, ht, hrun⟩ := h
    have hs : s3 = [] := by
      cases s3 with
      | nil => rfl
      | cons c t => cases h1
    subst hs
    have hf := Run.fin (m := ⟨[], ps, p, fl, []⟩) rfl
    unfold final at hf
    rw [if_neg (by rintro (z | z); exact hp z; exact z rfl)] at hf
    have hf2 : Run ⟨[], ps, p, fl, []⟩ (if 24 < (togL (ps ++ [p])).1 then .long (togL (ps ++ [p])).1 else .row (togL (ps ++ [p])).2) := hf
    rw [ht] at hf2
    exact hrun _ hf2
end Rt

set_option Elab.async false
set_option linter.all false
set_option maxRecDepth 100000
set_option maxHeartbeats 4000000
namespace Fk
open PySem PySem.Spec PyProof.Rows L2 Fg Rt
local macro_rules | `(tactic| walk_at "rd1") => `(tactic| first
  | with_reducible refine r_seq ?_
  | with_reducible refine r_asg ?_
  | with_reducible refine r_gname ?_
  | with_reducible refine r_gsub ?_
  | with_reducible refine r_ret ?_
  | with_reducible refine r_retN ?_
  | with_reducible refine r_next ?_
  | with_reducible refine r_drop ?_
  | with_reducible refine r_ifS ?_
  | with_reducible refine r_if ?_
  | with_reducible refine r_par ?_
  | with_reducible refine r_pair ?_
  | with_reducible refine r_test ?_
  | with_reducible refine r_tB ?_
  | with_reducible refine r_not ?_
  | with_reducible refine r_and ?_
  | with_reducible refine r_or ?_
  | with_reducible refine r_andV ?_
  | with_reducible refine r_orV ?_
  | with_reducible refine r_notV ?_
  | with_reducible refine r_nil ?_
  | with_reducible refine r_cons ?_
  | with_reducible refine r_call ?_
  | with_reducible refine r_callS ?_
  | with_reducible refine r_cb ?_
  | with_reducible refine r_then ?_
  | with_reducible refine r_tup ?_
  | with_reducible refine r_lst ?_
  | with_reducible refine r_sl ?_
  | with_reducible refine r_nopart ?_
  | with_reducible refine r_part ?_
  | with_reducible refine r_lcR1 ?_
  | with_reducible refine r_lcR2 ?_
  | with_reducible refine r_lcL ?_
  | with_reducible refine r_lcT ?_
  | with_reducible refine r_forR1 ?_
  | with_reducible refine r_forR2 ?_
  | with_reducible refine r_forL ?_
  | with_reducible refine r_forT ?_
  | with_reducible refine r_forE ?_
  | with_reducible refine r_strE ?_
  | ((with_reducible refine r_rng1 ?hc ?_); (case hc => omega))
  | ((with_reducible refine r_rng2 ?hc ?_); (case hc => omega))
  | ((with_reducible refine' r_refL ?hc ?_); (case hc => first | assumption | exact Evl.sq_of (by assumption)))
  | ((with_reducible refine' r_refT ?hc ?_); (case hc => first | assumption | exact Evl.st_of (by assumption)))
  | with_reducible refine r_op ?_
  | with_reducible refine r_un ?_
  | with_reducible refine r_chain ?_
  | ((with_reducible refine' r_var ?hv ?_); (case hv => exact rfl))
  | with_reducible refine r_cS ?_
  | with_reducible refine r_cs ?_
  | with_reducible refine r_c ?_
  | with_reducible refine r_yes ?_
  | with_reducible refine r_bm ?_
  | with_reducible refine r_bl ?_
  | with_reducible refine r_in ?_
  | with_reducible refine r_ty ?_
  | with_reducible refine r_I0 ?_
  | ((with_reducible refine r_I ?hc ?_); (case hc => first | assumption | (show (0 : Int) < _; decide) | exact Or.inr ⟨by decide, by decide⟩ | exact Or.inr ⟨by omega, by omega⟩ | exact Or.inl ⟨by decide, by decide⟩ | exact (show CDivW _ _ from ⟨by decide, by decide +kernel⟩) | exact (show CPowW _ _ from ⟨by decide, by decide +kernel⟩) | (show (0 : Int) < _; omega)))
  | with_reducible refine r_U ?_
  | with_reducible refine r_eqI ?_
  | with_reducible refine r_neI ?_
  | with_reducible refine r_eqS ?_
  | with_reducible refine r_neS ?_
  | with_reducible refine r_eqB ?_
  | with_reducible refine r_neB ?_
  | with_reducible refine r_niS ?_
  | with_reducible refine r_inSS ?_
  | ((with_reducible refine r_slSS ?hc ?_); (case hc => first | exact small (by omega) | exact small (by simp; omega)))
  | ((with_reducible refine r_lenS ?hc ?_); (case hc => first | exact small (by omega) | exact small (by simp; omega)))
  | ((with_reducible refine' r_lenL ?hc ?_); (case hc => first | assumption | exact Evl.sq_of (by assumption)))
  | ((with_reducible refine' r_lenT ?hc ?_); (case hc => first | assumption | exact Evl.st_of (by assumption)))
  | ((with_reducible refine' r_ixL ?h1 ?h2 ?h3 ?_); (case h1 => first | assumption | exact Evl.sq_of (by assumption) | exact Evl.sq_of upd_same); (case h2 => first | decide | omega); (case h3 => first | exact rfl | assumption))
  | ((with_reducible refine' r_ixT ?h1 ?h2 ?h3 ?_); (case h1 => first | assumption | exact Evl.st_of (by assumption)); (case h2 => first | decide | omega); (case h3 => first | exact rfl | assumption))
  | with_reducible refine r_T ?_
  | with_reducible refine r_notNn ?_
  | with_reducible refine r_notN_int ?_
  | with_reducible refine r_notN_str ?_
  | with_reducible refine r_notN_ref ?_
  | with_reducible refine r_isNn ?_
  | with_reducible refine r_isN_int ?_
  | with_reducible refine r_isN_str ?_
  | with_reducible refine r_isN_ref ?_
  | ((with_reducible refine' r_isi ?ht ?hk ?_); (case ht => first | exact .base (.int _) | exact .base (.bl _) | exact .base (.str _) | exact .base .non | exact .base (.lst (by assumption)) | exact .base (.tup (by assumption))); (case hk => first | exact kb_int_int | exact kb_int_bool | exact kb_int_str | exact kb_int_list | exact kb_int_tuple | exact kb_bool_int | exact kb_bool_bool | exact kb_bool_str | exact kb_bool_list | exact kb_bool_tuple | exact kb_str_int | exact kb_str_bool | exact kb_str_str | exact kb_str_list | exact kb_str_tuple | exact kb_NoneType_int | exact kb_NoneType_bool | exact kb_NoneType_str | exact kb_NoneType_list | exact kb_NoneType_tuple | exact kb_list_int | exact kb_list_bool | exact kb_list_str | exact kb_list_list | exact kb_list_tuple | exact kb_tuple_int | exact kb_tuple_bool | exact kb_tuple_str | exact kb_tuple_list | exact kb_tuple_tuple))
  | with_reducible refine r_F ?_
  | with_reducible refine r_nT ?_
  | with_reducible refine r_nF ?_
  | with_reducible refine r_mko ?_
  | with_reducible refine r_xf ?_
  | ((with_reducible refine' r_sum ?hc ?_); (case hc => first | assumption | exact Evl.sq_of (by assumption)))
  | ((with_reducible refine' r_setL ?h1 ?h2 ?h3 ?_); (case h1 => first | assumption | exact upd_same); (case h2 => first | decide | omega); (case h3 => first | (show _ < _; decide) | (simp; done)))
  | with_reducible refine r_int ?_
  | with_reducible refine r_abs ?_)
local macro_rules | `(tactic| walk_at "rd") => `(tactic| repeat (walk_at "rd1"))

section
variable {P : Program} {w : World} {K : PySem.W.Frag} {mg : Str → Option Value} {base : Heap}
theorem ix_tupK {X : Cx} {K : PySem.W.Frag} (h : X.K = K) : IxR X (rIxT K) := h ▸ ix_tup
def All2 {α : Type} (R : V → α → Prop) (vs : List V) (xs : List α) : Prop := vs.length = xs.length ∧ vs.length ≤ 2100 ∧ ∀ (k : Nat) (v : V) (x : α), vs[k]? = some v → xs[k]? = some x → R v x
theorem All2.map {α : Type} {R R' : V → α → Prop} {vs : List V} {xs : List α} (h : All2 R vs xs) (e : ∀ v x, R v x → R' v x) : All2 R' vs xs := ⟨h.1, h.2.1, fun k v x a b => e v x (h.2.2 k v x a b)⟩
theorem All2.snoc {α : Type} {R : V → α → Prop} {vs : List V} {xs : List α} (h : All2 R vs xs) (hv : vs.length < 2100) {v : V} {x : α} (hx : R v x) : All2 R (vs ++ [v]) (xs ++ [x]) := by
  refine ⟨by rw [List.length_append, List.length_append, h.1]; rfl, by rw [List.length_append]; show _ + 1 ≤ 2100; omega, fun k v' x' h1 h2 => ?_⟩
  by_cases e : k < vs.length
  · rw [List.getElem?_append_left e] at h1
    rw [List.getElem?_append_left (by rw [← h.1]; exact e)] at h2
    exact h.2.2 k v' x' h1 h2
  · rw [List.getElem?_append_right (by omega)] at h1
    rw [List.getElem?_append_right (by rw [← h.1]; omega)] at h2
    have ek : k - vs.length = 0 := by
      rcases Nat.eq_zero_or_pos (k - vs.length) with z | z
      · exact z
      · rw [List.getElem?_eq_none (by show 1 ≤ _; omega)] at h1; cases h1
    rw [ek] at h1
    rw [← h.1, ek] at h2
    cases h1
    cases h2
    exact hx
theorem take_snoc {α : Type} {l : List α} {i : Nat} {y : α} (h : l[i]? = some y) : l.take (i + 1) = l.take i ++ [y] := by
  rw [List.take_add_one, h]
  rfl
def spCommon : Sp := fun vs H Q _ => ∃ a b : Nat, vs = [.int (a : Int), .int (b : Int)] ∧ 1 ≤ a ∧ 1 ≤ b ∧ a < 2 ^ 8500 ∧ b < 2 ^ 8500 ∧ Q (.int ((Nat.lcm a b : Nat) : Int)) H
abbrev s_l_common : Stmt := topS 31
abbrev N_l_common : List Str := ["_law_one", "_law_two", "_law_first", "_law_second", "_law_third"]
theorem sc_l_common : FnScope ["_law_one", "_law_two", "_law_first", "_law_second", "_law_third"] ["_law_one", "_law_two"] (defScope s_l_common) := ⟨rfl, rfl, rfl, by decide +kernel, rfl, by decide +kernel, by decide +kernel⟩
theorem can_l_common (T : Bi mg) (F : Defd K mg "_law_common" s_l_common ["_law_one", "_law_two"]) : Can P w K mg base L2.CX0 1 "_law_common" ["_law_one", "_law_two"] spCommon := by
  refine can0 F sc_l_common (fun vs H Q E h => ?_) (fun f cdv A outer s H vs Q E hr h => ⟨_, (pss_cons (ps_set (i := 2) sc_l_common.nd rfl (by first | exact Or.inl rfl | exact Or.inr rfl) (pv 0))
  (pss_cons (ps_set (i := 3) sc_l_common.nd rfl (by first | exact Or.inl rfl | exact Or.inr rfl) (pv 1))
  (pss_cons (ps_while PassesOwn.never (pt_cmpR op_gt (pv 3) pe_int (nomark _)) (pss_cons (ps_set (i := 4) sc_l_common.nd rfl (by first | exact Or.inl rfl | exact Or.inr rfl) (pe_op op_mod (pe_callTy call_intI (by rfl) T.b_int boot_int (pa_cons (pv 2) pa_nil)) (pv 3)))
  (pss_cons (ps_set (i := 2) sc_l_common.nd rfl (by first | exact Or.inl rfl | exact Or.inr rfl) (pv 3))
  (pss_one (ps_set (i := 3) sc_l_common.nd rfl (by first | exact Or.inl rfl | exact Or.inr rfl) (pv 4))))))
  (pss_one (ps_ret (pe_op op_mulW (pe_op op_fdivW (pv 0) (pv 2)) (pv 1))))))), ?_⟩)
  · obtain ⟨_, _, rfl, _⟩ := h
    rfl
  · obtain ⟨a, b, rfl, ha, hb, la, lb, q⟩ := h
    walk_at "rd"
    refine ⟨fun m σ' H' => ∃ (x y : Nat) (o : Option V), σ' = [some (.int (a : Int)), some (.int (b : Int)), some (.int (x : Int)), some (.int (y : Int)), o] ∧ H' = H ∧ m = y ∧ Nat.gcd x y = Nat.gcd a b ∧ 1 ≤ x, ⟨b, a, b, _, rfl, rfl, rfl, rfl, ha⟩, fun m σ' H' hW => ?_⟩
    obtain ⟨x, y, o, rfl, rfl, rfl, hg, hx⟩ := hW
    walk_at "rd"
    refine r_ite (fun h => ?_) (fun h => ?_)
    · have y0 : (0 : Int) < (m : Int) := by omega
      refine ⟨fun σ2 H2 => ∃ m', m' < m ∧ ∃ (x y : Nat) (o : Option V), σ2 = [some (.int (a : Int)), some (.int (b : Int)), some (.int (x : Int)), some (.int (y : Int)), o] ∧ H2 = H' ∧ m' = y ∧ Nat.gcd x y = Nat.gcd a b ∧ 1 ≤ x, fun σ2 H2 z => z, ?_⟩
      walk_at "rd"
      refine ⟨x % m, Nat.mod_lt _ (by omega), m, x % m, some (.int ((x : Int) % (m : Int))), ?_, rfl, rfl, ?_, by omega⟩
      · rw [Int.natCast_emod]
        rfl
      · rw [← hg, Nat.gcd_comm m, ← Nat.gcd_rec, Nat.gcd_comm]
    · have y0 : m = 0 := by omega
      subst y0
      rw [Nat.gcd_zero_right] at hg
      subst hg
      have g1 : 1 ≤ Nat.gcd a b := hx
      have ga : Nat.gcd a b ≤ a := Nat.le_of_dvd ha (Nat.gcd_dvd_left a b)
      have dv : CDivW (a : Int) ((Nat.gcd a b : Nat) : Int) := wide_div (b := 8500) (by omega) (by rw [Int.natAbs_natCast]; exact Nat.lt_of_le_of_lt ga la) (by decide) (by decide)
      have ml : CMulW ((a : Int) / ((Nat.gcd a b : Nat) : Int)) (b : Int) := by
        rw [← Int.natCast_ediv]
        exact wide_mul (a := 8500) (b := 8500) (by rw [Int.natAbs_natCast]; exact Nat.lt_of_le_of_lt (Nat.div_le_self _ _) la) (by rw [Int.natAbs_natCast]; exact lb) (by decide) (by decide) (by decide)
      walk_at "rd"
      rw [← Int.natCast_ediv, ← Int.natCast_mul, Nat.div_mul_right_comm (Nat.gcd_dvd_left a b)]
      exact q
/-! ### beats and a row in the heap -/
def rowV (p : Pr) : V := if p.1 ≤ 24 then .str (S p.2) else .non
def PrAt (H : Hp) (v : V) (p : Pr) : Prop := ∃ a, v = .ref a ∧ H a = some (.tup [.int (p.1 : Int), rowV p])
theorem PrAt.ex {H H' : Hp} {v : V} {p : Pr} (h : PrAt H v p) (e : Ex H H') : PrAt H' v p := by
  obtain ⟨a, h1, h2⟩ := h
  exact ⟨a, h1, e _ _ h2⟩
structure OkP (p : Pr) : Prop where
  row : p.1 ≤ 24 → p.2.length = p.1
  non : 24 < p.1 → p.2 = []
theorem kept_len {b : Nat} {r : List Nat} (h : b ≤ 24 → r.length = b) : OkP (b, kept b r) := by
  constructor
  · intro hb
    show (kept b r).length = b
    unfold kept
    rw [if_pos hb]
    exact h hb
  · intro hb
    show kept b r = []
    unfold kept
    rw [if_neg (by show ¬ b ≤ 24; exact Nat.not_le.mpr hb)]
theorem okP_behind {a b : Pr} (ha : OkP a) (hb : OkP b) : OkP (behind a b) := kept_len fun h => by
  rw [List.length_append, ha.row (by omega), hb.row (by omega)]
theorem okP_often {t : Nat} {a : Pr} (h1 : 1 ≤ t) (ha : OkP a) : OkP (often t a) := kept_len fun h => by
  have : a.1 ≤ t * a.1 := Nat.le_mul_of_pos_left _ h1
  rw [rep_len, ha.row (by omega)]
theorem okP_tog (ps : List Pr) : OkP (togL ps) := by
  constructor
  · intro h
    have h' : many ps ≤ 24 := h
    show (if many ps ≤ 24 then (List.range (many ps)).map (lit ps) else []).length = many ps
    rw [if_pos h', List.length_map, List.length_range]
  · intro h
    have h' : 24 < many ps := h
    show (if many ps ≤ 24 then (List.range (many ps)).map (lit ps) else []) = []
    rw [if_neg (by omega)]
def spBehind : Sp := fun vs H Q _ => ∃ (v u : V) (a b : Pr), vs = [v, u] ∧ PrAt H v a ∧ PrAt H u b ∧ OkP a ∧ OkP b ∧ ∀ z H', Ex H H' → PrAt H' z (behind a b) → Q z H'
def spOften : Sp := fun vs H Q _ => ∃ (v : V) (t : Nat) (a : Pr), vs = [v, .int (t : Int)] ∧ PrAt H v a ∧ OkP a ∧ 1 ≤ t ∧ t ≤ 24 ∧ ∀ z H', Ex H H' → PrAt H' z (often t a) → Q z H'
abbrev s_l_behind : Stmt := topS 32
abbrev N_l_behind : List Str := ["_law_one", "_law_two", "_law_many"]
theorem sc_l_behind : FnScope ["_law_one", "_law_two", "_law_many"] ["_law_one", "_law_two"] (defScope s_l_behind) := ⟨rfl, rfl, rfl, by decide +kernel, rfl, by decide +kernel, by decide +kernel⟩
theorem can_l_behind (T : Bi mg) (F : Defd K mg "_law_behind" s_l_behind ["_law_one", "_law_two"]) : Can P w K mg base L2.CX0 1 "_law_behind" ["_law_one", "_law_two"] spBehind := by
  refine can0 F sc_l_behind (fun vs H Q E h => ?_) (fun f cdv A outer s H vs Q E hr h => ⟨_, (pss_cons (ps_set (i := 2) sc_l_behind.nd rfl (by first | exact Or.inl rfl | exact Or.inr rfl) (pe_op op_add (pe_ix ix_tup (pv 0) pe_int (fun _ _ => rfl)) (pe_ix ix_tup (pv 1) pe_int (fun _ _ => rfl))))
  (pss_cons (ps_if (pt_cmpR op_gt (pv 2) pe_int (nomark _)) (pss_one (ps_ret (pe_tup (pa_cons (pv 2) (pa_cons pe_non pa_nil))))) pss_nil)
  (pss_one (ps_ret (pe_tup (pa_cons (pv 2) (pa_cons (pe_op op_catS (pe_ix ix_tup (pv 0) pe_int (fun _ _ => rfl)) (pe_ix ix_tup (pv 1) pe_int (fun _ _ => rfl))) pa_nil))))))), ?_⟩)
  · obtain ⟨_, _, _, _, rfl, _⟩ := h
    rfl
  · obtain ⟨v, u, a, b, rfl, ⟨x, rfl, hx⟩, ⟨y, rfl, hy⟩, oa, ob, q⟩ := h
    by_cases h24 : a.1 + b.1 ≤ 24
    · have ra : rowV a = .str (S a.2) := if_pos (by omega)
      have rb : rowV b = .str (S b.2) := if_pos (by omega)
      rw [ra] at hx
      rw [rb] at hy
      have l1 := oa.row (by omega)
      have l2 := ob.row (by omega)
      walk_at "rd"
      refine r_ite (fun z => absurd z (by omega)) (fun _ => ?_)
      walk_at "rd"
      refine r_catS (small (by omega)) ?_
      walk_at "rd"
      refine ⟨small (by show 2 ≤ 1000000; decide), fun p hp => ?_⟩
      refine q _ _ (Evl.Ex.new hp) ⟨p, rfl, ?_⟩
      rw [upd_same]
      have e : rowV (behind a b) = .str (S (a.2 ++ b.2)) := by
        unfold rowV behind kept
        rw [if_pos h24, if_pos h24]
      rw [e]
      show _ = some (HO.tup [V.int ((a.1 + b.1 : Nat) : Int), _])
      rw [Int.natCast_add]
    · walk_at "rd"
      refine r_ite (fun _ => ?_) (fun z => absurd (by omega) z)
      walk_at "rd"
      refine ⟨small (by show 2 ≤ 1000000; decide), fun p hp => ?_⟩
      refine q _ _ (Evl.Ex.new hp) ⟨p, rfl, ?_⟩
      rw [upd_same]
      have e : rowV (behind a b) = .non := if_neg h24
      rw [e]
      show _ = some (HO.tup [V.int ((a.1 + b.1 : Nat) : Int), _])
      rw [Int.natCast_add]
abbrev s_l_often : Stmt := topS 33
abbrev N_l_often : List Str := ["_law_one", "_law_times_here", "_law_many"]
theorem sc_l_often : FnScope ["_law_one", "_law_times_here", "_law_many"] ["_law_one", "_law_times_here"] (defScope s_l_often) := ⟨rfl, rfl, rfl, by decide +kernel, rfl, by decide +kernel, by decide +kernel⟩
theorem can_l_often (T : Bi mg) (F : Defd K mg "_law_often" s_l_often ["_law_one", "_law_times_here"]) : Can P w K mg base L2.CX0 1 "_law_often" ["_law_one", "_law_times_here"] spOften := by
  refine can0 F sc_l_often (fun vs H Q E h => ?_) (fun f cdv A outer s H vs Q E hr h => ⟨_, (pss_cons (ps_set (i := 2) sc_l_often.nd rfl (by first | exact Or.inl rfl | exact Or.inr rfl) (pe_op op_mul (pe_ix ix_tup (pv 0) pe_int (fun _ _ => rfl)) (pv 1)))
  (pss_cons (ps_if (pt_cmpR op_gt (pv 2) pe_int (nomark _)) (pss_one (ps_ret (pe_tup (pa_cons (pv 2) (pa_cons pe_non pa_nil))))) pss_nil)
  (pss_one (ps_ret (pe_tup (pa_cons (pv 2) (pa_cons (pe_op op_repS (pe_ix ix_tup (pv 0) pe_int (fun _ _ => rfl)) (pv 1)) pa_nil))))))), ?_⟩)
  · obtain ⟨_, _, _, rfl, _⟩ := h
    rfl
  · obtain ⟨v, n, a, rfl, ⟨x, rfl, hx⟩, oa, n1, n24, q⟩ := h
    have hc : CMul (a.1 : Int) (n : Int) := .inr ⟨by omega, by omega⟩
    have em : (a.1 : Int) * (n : Int) = ((n * a.1 : Nat) : Int) := by rw [Int.natCast_mul, Int.mul_comm]
    have le : a.1 ≤ n * a.1 := Nat.le_mul_of_pos_left _ n1
    by_cases h24 : n * a.1 ≤ 24
    · have ra : rowV a = .str (S a.2) := if_pos (by omega)
      rw [ra] at hx
      have l1 := oa.row (by omega)
      walk_at "rd"
      rw [em]
      refine r_ite (fun z => absurd z (by omega)) (fun _ => ?_)
      walk_at "rd"
      refine r_repS (by omega) (by omega) (small (by rw [l1, Int.toNat_natCast, Nat.mul_comm]; omega)) ?_
      rw [Int.toNat_natCast]
      walk_at "rd"
      refine ⟨small (by show 2 ≤ 1000000; decide), fun p hp => ?_⟩
      refine q _ _ (Evl.Ex.new hp) ⟨p, rfl, ?_⟩
      rw [upd_same]
      have e : rowV (often n a) = .str (S (List.replicate n a.2).flatten) := by
        unfold rowV often kept rep
        rw [if_pos h24, if_pos h24]
      rw [e]
      rfl
    · walk_at "rd"
      rw [em]
      refine r_ite (fun _ => ?_) (fun z => absurd (by omega) z)
      walk_at "rd"
      refine ⟨small (by show 2 ≤ 1000000; decide), fun p hp => ?_⟩
      refine q _ _ (Evl.Ex.new hp) ⟨p, rfl, ?_⟩
      rw [upd_same]
      have e : rowV (often n a) = .non := if_neg h24
      rw [e]
      rfl
/-! ### parts shown together -/
def PsAt (H : Hp) (v : V) (ps : List Pr) : Prop := ∃ (a : Addr) (vs : List V), v = .ref a ∧ H a = some (.lst vs) ∧ All2 (PrAt H) vs ps
theorem PsAt.ex {H H' : Hp} {v : V} {ps : List Pr} (h : PsAt H v ps) (e : Ex H H') : PsAt H' v ps := by
  obtain ⟨a, vs, h1, h2, h3⟩ := h
  exact ⟨a, vs, h1, e _ _ h2, h3.map fun v x h => h.ex e⟩
def vals (ps : List Pr) (i : Nat) : List Nat := (ps.map fun p => (p.2[i % p.1]?).getD 0).filter fun c => decide (c ≠ 46)
theorem vals_snoc (ps : List Pr) (p : Pr) (i : Nat) : vals (ps ++ [p]) i = vals ps i ++ (if (p.2[i % p.1]?).getD 0 ≠ 46 then [(p.2[i % p.1]?).getD 0] else []) := by
  unfold vals
  rw [List.map_append, List.filter_append]
  congr 1
  show List.filter _ [(p.2[i % p.1]?).getD 0] = _
  by_cases h : (p.2[i % p.1]?).getD 0 ≠ 46
  · rw [if_pos h, List.filter_cons, if_pos (decide_eq_true h)]
    rfl
  · rw [if_neg h, List.filter_cons, if_neg (by rw [decide_eq_false h]; decide)]
    rfl
theorem vals_head : ∀ (ps : List Pr) (i : Nat), (vals ps i ++ [46])[0]? = some (lit ps i)
  | [], _ => rfl
  | p :: ps, i => by
    have e : vals (p :: ps) i = (if (p.2[i % p.1]?).getD 0 ≠ 46 then [(p.2[i % p.1]?).getD 0] else []) ++ vals ps i := by
      have := vals_snoc [] p i
      unfold vals at this ⊢
      rw [List.map_cons]
      rw [show (fun p : Pr => (p.2[i % p.1]?).getD 0) p :: ps.map (fun p => (p.2[i % p.1]?).getD 0) = [(p.2[i % p.1]?).getD 0] ++ ps.map (fun p => (p.2[i % p.1]?).getD 0) from rfl, List.filter_append]
      congr 1
    rw [e]
    show _ = some (if (p.2[i % p.1]?).getD 0 ≠ 46 then (p.2[i % p.1]?).getD 0 else lit ps i)
    by_cases h : (p.2[i % p.1]?).getD 0 ≠ 46
    · rw [if_pos h, if_pos h]
      rfl
    · rw [if_neg h, if_neg h]
      exact vals_head ps i
def spTog : Sp := fun vs H Q _ => ∃ (v : V) (ps : List Pr), vs = [v] ∧ PsAt H v ps ∧ (∀ p ∈ ps, OkP p ∧ p.1 ≠ 0) ∧ many ps < 2 ^ 8500 ∧ ∀ z H', Ex H H' → PrAt H' z (togL ps) → Q z H'
theorem many_take_dvd (ps : List Pr) (i : Nat) : many (ps.take i) ∣ many ps := by
  have h := (many_dvd (ps.drop i) (many (ps.take i))).1
  have e : many ps = (ps.drop i).foldl (fun a p => Nat.lcm a p.1) (many (ps.take i)) := by
    conv => lhs; rw [← List.take_append_drop i ps]
    unfold many
    rw [List.foldl_append]
  rw [e]
  exact h
abbrev s_l_together : Stmt := topS 34
abbrev N_l_together : List Str := ["_law_parts", "_law_many", "_law_part", "_law_row", "_law_spot", "_law_lit"]
theorem sc_l_together : FnScope ["_law_parts", "_law_many", "_law_part", "_law_row", "_law_spot", "_law_lit"] ["_law_parts"] (defScope s_l_together) := ⟨rfl, rfl, rfl, by decide +kernel, rfl, by decide +kernel, by decide +kernel⟩
theorem can_l_together (T : Bi mg) (F : Defd K mg "_law_together" s_l_together ["_law_parts"]) (C_l_common : Can P w K mg base L2.CX0 1 "_law_common" ["_law_one", "_law_two"] spCommon) : Can P w K mg base L2.CX0 2 "_law_together" ["_law_parts"] spTog := by
  refine can0 F sc_l_together (fun vs H Q E h => ?_) (fun f cdv A outer s H vs Q E hr h => ⟨_, (pss_cons (ps_set (i := 1) sc_l_together.nd rfl (by first | exact Or.inl rfl | exact Or.inr rfl) pe_int)
  (pss_cons (ps_for PassesOwn.never rfl (pi_list (pv 0)) (pg_name (i := 2) sc_l_together.nd rfl (by first | exact Or.inl rfl | exact Or.inr rfl))
    (pss_one (ps_set (i := 1) sc_l_together.nd rfl (by first | exact Or.inl rfl | exact Or.inr rfl) (pe_can C_l_common hr (by decide) rfl (pa_cons (pv 1) (pa_cons (pe_ix ix_tup (pv 2) pe_int (fun _ _ => rfl)) pa_nil))))))
  (pss_cons (ps_if (pt_cmpR op_gt (pv 1) pe_int (nomark _)) (pss_one (ps_ret (pe_tup (pa_cons (pv 1) (pa_cons pe_non pa_nil))))) pss_nil)
  (pss_cons (ps_set (i := 3) sc_l_together.nd rfl (by first | exact Or.inl rfl | exact Or.inr rfl) (pe_strL [] (by decide +kernel)))
  (pss_cons (ps_for PassesOwn.never rfl (pi_range1 rfl T.b_range (pa_cons (pv 1) pa_nil)) (pg_name (i := 4) sc_l_together.nd rfl (by first | exact Or.inl rfl | exact Or.inr rfl))
    (pss_cons (ps_setLc (i := 5) (own := [("_law_part", 2)]) (g := gName 2) rfl sc_l_together.nd rfl rfl (sw_true rfl rfl rfl (by decide +kernel)) (pi_list (pv 0)) (blkOk_by (N := N_l_together) (sc := defScope s_l_together) (by decide +kernel)) (fun _ _ _ _ _ => pg_name (i := 2) sc_l_together.nd rfl (Or.inl rfl)) (fun _ _ _ _ _ => (pts_one (pt_cmpR op_ne (pe_ix ix_strS (pe_ix (ix_tupK (K := K) rfl) (pv 2) pe_int (fun _ _ => rfl)) (pe_op op_mod (pe_callTy call_intI (by rfl) T.b_int boot_int (pa_cons (pv 4) pa_nil)) (pe_ix (ix_tupK (K := K) rfl) (pv 2) pe_int (fun _ _ => rfl))) (fun _ _ => rfl)) (pe_strL [46] (by decide +kernel)) (nomark _)))) (fun _ _ _ _ _ => (pe_ix ix_strS (pe_ix (ix_tupK (K := K) rfl) (pv 2) pe_int (fun _ _ => rfl)) (pe_op op_mod (pe_callTy call_intI (by rfl) T.b_int boot_int (pa_cons (pv 4) pa_nil)) (pe_ix (ix_tupK (K := K) rfl) (pv 2) pe_int (fun _ _ => rfl))) (fun _ _ => rfl))))
  (pss_one (ps_set (i := 3) sc_l_together.nd rfl (by first | exact Or.inl rfl | exact Or.inr rfl) (pe_op op_catS (pv 3) (pe_ix ix_list (pe_op op_cat (pv 5) (pe_lst (pa_cons (pe_strL [46] (by decide +kernel)) pa_nil))) pe_int (fun _ _ => rfl)))))))
  (pss_one (ps_ret (pe_tup (pa_cons (pv 1) (pa_cons (pv 3) pa_nil)))))))))), ?_⟩)
  · obtain ⟨_, _, rfl, _⟩ := h
    rfl
  · obtain ⟨v, ps, rfl, ⟨L, vs, rfl, hL, hall⟩, hok, hlt, q⟩ := h
    have hvs : vs.length = ps.length := hall.1
    have m1 : 1 ≤ many ps := many_pos ps fun p hp => (hok p hp).2
    have v21 := hall.2.1
    walk_at "rd"
    refine forL (xs := vs) (fun i σ' H' => ∃ o, σ' = [some (.ref L), some (.int ((many (ps.take i) : Nat) : Int)), o, none, none, none] ∧ Ex H H') ⟨_, rfl, Evl.Ex.refl _⟩ (fun i σ' H' hi hJ => ?_) (fun i y σ' H' hy hJ => ?_) (fun σ' H' hJ => ?_)
    · obtain ⟨o, rfl, ex⟩ := hJ
      exact Evl.sq_of (ex _ _ hL)
    · obtain ⟨o, rfl, ex⟩ := hJ
      have hi := lt_of_get hy
      have hz : ps[i]? = some ps[i] := List.getElem?_eq_getElem (by omega)
      have hm : ps[i] ∈ ps := List.getElem_mem _
      obtain ⟨x, rfl, hx⟩ := (hall.2.2 i y ps[i] hy hz).ex ex
      have le1 : ps[i].1 ≤ many ps := Nat.le_of_dvd m1 ((many_dvd ps 1).2 _ hm)
      have le2 : many (ps.take i) ≤ many ps := Nat.le_of_dvd m1 (many_take_dvd ps i)
      have p1 : 1 ≤ many (ps.take i) := many_pos _ fun p hp => (hok p (List.mem_of_mem_take hp)).2
      walk_at "rd"
      refine ⟨_, _, rfl, p1, Nat.pos_of_ne_zero (hok _ hm).2, Nat.lt_of_le_of_lt le2 hlt, Nat.lt_of_le_of_lt le1 hlt, ?_⟩
      walk_at "rd"
      rw [← many_snoc, ← take_snoc hz]
      exact ⟨_, rfl, ex⟩
    · obtain ⟨o, rfl, ex⟩ := hJ
      rw [List.take_of_length_le (by omega)]
      walk_at "rd"
      refine r_ite (fun h24 => ?_) (fun h24 => ?_)
      · walk_at "rd"
        refine ⟨small (by show 2 ≤ 1000000; decide), fun p hp => ?_⟩
        refine q _ _ (ex.trans (Evl.Ex.new hp)) ⟨p, rfl, ?_⟩
        rw [upd_same]
        have e : rowV (togL ps) = .non := if_neg (by show ¬ many ps ≤ 24; omega)
        rw [e]
        rfl
      have m24 : many ps ≤ 24 := by omega
      obtain ⟨mm, hmm⟩ : ∃ mm, mm = many ps := ⟨_, rfl⟩
      rw [← hmm] at m24 h24 ⊢
      walk_at "rd"
      refine forR (fun i σ' H2 => ∃ o2 o4 o5, σ' = [some (.ref L), some (.int (mm : Int)), o2, some (.str (S ((List.range i).map (lit ps)))), o4, o5] ∧ Ex H H2) ⟨_, _, _, rfl, ex⟩ (fun i σ' H2 hi hJ => ?_) (fun σ' H2 hJ => ?_)
      · obtain ⟨o2, o4, o5, rfl, ex2⟩ := hJ
        have hi24 : i < 24 := by omega
        have hL2 := ex2 _ _ hL
        walk_at "rd"
        refine lcL (xs := vs) (fun D j acc H3 => Ex H2 H3 ∧ acc = (vals (ps.take j) i).map fun c => V.str (S [c])) (fun _ => rfl) (fun D hD => ⟨Evl.Ex.new hD, rfl⟩) (fun D j H3 acc hD hJ => Evl.sq_of (hJ.1 _ _ (ex2 _ _ hL)))
          (fun D j y H3 acc hDn hy e3 hl3 hJ => ?_) (fun D H3 acc hDn e3 hJ => ?_)
        · obtain ⟨ex3, rfl⟩ := hJ
          have hj := lt_of_get hy
          have hz : ps[j]? = some ps[j] := List.getElem?_eq_getElem (by omega)
          have hm : ps[j] ∈ ps := List.getElem_mem _
          obtain ⟨x, rfl, hx⟩ := ((hall.2.2 j y ps[j] hy hz).ex ex2).ex ex3
          have le1 : ps[j].1 ≤ 24 := Nat.le_trans (Nat.le_of_dvd m1 ((many_dvd ps 1).2 _ hm)) (by rw [← hmm]; exact m24)
          have hrow := (hok _ hm).1.row le1
          have pos := Nat.pos_of_ne_zero (hok _ hm).2
          have rv : rowV ps[j] = .str (S ps[j].2) := if_pos le1
          rw [rv] at hx
          have hlt2 : i % ps[j].1 < ps[j].2.length := by rw [hrow]; exact Nat.mod_lt _ pos
          have eM : ((0 : Int) + (i : Int)) % (ps[j].1 : Int) = ((i % ps[j].1 : Nat) : Int) := by rw [Int.zero_add, Int.natCast_emod]
          have hc : ps[j].2[(((0 : Int) + (i : Int)) % (ps[j].1 : Int)).toNat]? = some ((ps[j].2[i % ps[j].1]?).getD 0) := by
            rw [eM, Int.toNat_natCast, List.getElem?_eq_getElem hlt2]
            rfl
          have nn : 0 ≤ ((0 : Int) + (i : Int)) % (ps[j].1 : Int) := by rw [eM]; omega
          have pI : (0 : Int) < (ps[j].1 : Int) := by omega
          walk_at "rd"
          refine r_ixSS (small (by omega)) nn hc ?_
          walk_at "rd"
          refine r_iteN (fun hne => ?_) (fun hne => ?_)
          · have hne' : (ps[j].2[i % ps[j].1]?).getD 0 ≠ 46 := fun z => hne (by rw [z])
            walk_at "rd"
            refine r_ixSS (small (by omega)) nn hc ?_
            refine lc_end (by omega) hl3 e3 ⟨ex3.mut hDn, ?_⟩
            rw [take_snoc hz, vals_snoc, if_pos hne', List.map_append]
            rfl
          · have he' : (ps[j].2[i % ps[j].1]?).getD 0 = 46 := by injection hne
            refine lc_skip hl3 e3 ⟨ex3, ?_⟩
            rw [take_snoc hz, vals_snoc, if_neg (fun z => z he'), List.append_nil]
        obtain ⟨ex3, rfl⟩ := hJ
        rw [List.take_of_length_le (by omega)] at e3
        walk_at "rd"
        refine ⟨small (by show 1 ≤ 1000000; decide), fun G hG => ?_⟩
        have exG := Evl.Ex.new (o := .lst [V.str (S [46])]) hG
        have gG : (upd H3 G (.lst [V.str (S [46])])) G = some (.lst [V.str (S [46])]) := upd_same
        generalize upd H3 G (.lst [V.str (S [46])]) = H4 at exG gG ⊢
        have vl : (vals ps i).length ≤ 2100 := by
          unfold vals
          refine Nat.le_trans (List.length_filter_le _ _) ?_
          rw [List.length_map]
          omega
        refine ⟨_, _, _, _, rfl, rfl, exG _ _ e3, gG, by rw [List.length_map, sizeLine_eq]; show _ + 1 ≤ _; omega, fun C hC => ?_⟩
        have exC := Evl.Ex.new (o := .lst ((vals ps i).map (fun c => V.str (S [c])) ++ [V.str (S [46])])) hC
        have gC : (upd H4 C (.lst ((vals ps i).map (fun c => V.str (S [c])) ++ [V.str (S [46])]))) C = some (.lst ((vals ps i).map (fun c => V.str (S [c])) ++ [V.str (S [46])])) := upd_same
        generalize upd H4 C (.lst ((vals ps i).map (fun c => V.str (S [c])) ++ [V.str (S [46])])) = H5 at exC gC ⊢
        have hv0 : ((vals ps i).map (fun c => V.str (S [c])) ++ [V.str (S [46])])[(0 : Int).toNat]? = some (.str (S [lit ps i])) := by
          have := vals_head ps i
          have e : (vals ps i).map (fun c => V.str (S [c])) ++ [V.str (S [46])] = (vals ps i ++ [46]).map (fun c => V.str (S [c])) := by rw [List.map_append]; rfl
          rw [e, List.getElem?_map]
          show Option.map _ (vals ps i ++ [46])[0]? = _
          rw [this]
          rfl
        walk_at "rd"
        refine r_catS (small (by rw [List.length_map, List.length_range]; show i + 1 ≤ 1000000; omega)) ?_
        rw [show (List.range i).map (lit ps) ++ [lit ps i] = (List.range (i + 1)).map (lit ps) by rw [List.range_succ, List.map_append]; rfl]
        exact ⟨_, _, _, rfl, ((ex2.trans ex3).trans exG).trans exC⟩
      · obtain ⟨o2, o4, o5, rfl, ex2⟩ := hJ
        walk_at "rd"
        refine ⟨small (by show 2 ≤ 1000000; decide), fun p hp => ?_⟩
        refine q _ _ (ex2.trans (Evl.Ex.new hp)) ⟨p, rfl, ?_⟩
        rw [upd_same, Int.toNat_natCast]
        have e : rowV (togL ps) = .str (S ((List.range mm).map (lit ps))) := by
          unfold rowV togL
          rw [← hmm, if_pos m24, if_pos m24]
        rw [e]
        show _ = some (HO.tup [V.int ((many ps : Nat) : Int), _])
        rw [← hmm]
end
end Fk

set_option Elab.async false
set_option linter.all false
set_option maxRecDepth 100000
set_option maxHeartbeats 4000000
namespace Fk
open PySem PySem.Spec PyProof.Rows L2 Fg Rt
local macro_rules | `(tactic| walk_at "rd1") => `(tactic| first
  | with_reducible refine r_seq ?_
  | with_reducible refine r_asg ?_
  | with_reducible refine r_gname ?_
  | with_reducible refine r_gsub ?_
  | with_reducible refine r_ret ?_
  | with_reducible refine r_retN ?_
  | with_reducible refine r_next ?_
  | with_reducible refine r_drop ?_
  | with_reducible refine r_ifS ?_
  | with_reducible refine r_if ?_
  | with_reducible refine r_par ?_
  | with_reducible refine r_pair ?_
  | with_reducible refine r_test ?_
  | with_reducible refine r_tB ?_
  | with_reducible refine r_not ?_
  | with_reducible refine r_and ?_
  | with_reducible refine r_or ?_
  | with_reducible refine r_andV ?_
  | with_reducible refine r_orV ?_
  | with_reducible refine r_notV ?_
  | with_reducible refine r_nil ?_
  | with_reducible refine r_cons ?_
  | with_reducible refine r_call ?_
  | with_reducible refine r_callS ?_
  | with_reducible refine r_cb ?_
  | with_reducible refine r_then ?_
  | with_reducible refine r_tup ?_
  | with_reducible refine r_lst ?_
  | with_reducible refine r_sl ?_
  | with_reducible refine r_nopart ?_
  | with_reducible refine r_part ?_
  | with_reducible refine r_lcR1 ?_
  | with_reducible refine r_lcR2 ?_
  | with_reducible refine r_lcL ?_
  | with_reducible refine r_lcT ?_
  | with_reducible refine r_forR1 ?_
  | with_reducible refine r_forR2 ?_
  | with_reducible refine r_forL ?_
  | with_reducible refine r_forT ?_
  | with_reducible refine r_forE ?_
  | with_reducible refine r_strE ?_
  | ((with_reducible refine r_rng1 ?hc ?_); (case hc => omega))
  | ((with_reducible refine r_rng2 ?hc ?_); (case hc => omega))
  | ((with_reducible refine' r_refL ?hc ?_); (case hc => first | assumption | exact Evl.sq_of (by assumption)))
  | ((with_reducible refine' r_refT ?hc ?_); (case hc => first | assumption | exact Evl.st_of (by assumption)))
  | with_reducible refine r_op ?_
  | with_reducible refine r_un ?_
  | with_reducible refine r_chain ?_
  | ((with_reducible refine' r_var ?hv ?_); (case hv => exact rfl))
  | with_reducible refine r_cS ?_
  | with_reducible refine r_cs ?_
  | with_reducible refine r_c ?_
  | with_reducible refine r_yes ?_
  | with_reducible refine r_bm ?_
  | with_reducible refine r_bl ?_
  | with_reducible refine r_in ?_
  | with_reducible refine r_ty ?_
  | with_reducible refine r_I0 ?_
  | ((with_reducible refine r_I ?hc ?_); (case hc => first | assumption | (show (0 : Int) < _; decide) | exact Or.inr ⟨by decide, by decide⟩ | exact Or.inr ⟨by omega, by omega⟩ | exact Or.inl ⟨by decide, by decide⟩ | exact (show CDivW _ _ from ⟨by decide, by decide +kernel⟩) | exact (show CPowW _ _ from ⟨by decide, by decide +kernel⟩) | (show (0 : Int) < _; omega)))
  | with_reducible refine r_U ?_
  | with_reducible refine r_eqI ?_
  | with_reducible refine r_neI ?_
  | with_reducible refine r_eqS ?_
  | with_reducible refine r_neS ?_
  | with_reducible refine r_eqB ?_
  | with_reducible refine r_neB ?_
  | with_reducible refine r_niS ?_
  | with_reducible refine r_inSS ?_
  | ((with_reducible refine r_slSS ?hc ?_); (case hc => first | exact small (by omega) | exact small (by simp; omega)))
  | ((with_reducible refine r_lenS ?hc ?_); (case hc => first | exact small (by omega) | exact small (by simp; omega)))
  | ((with_reducible refine' r_lenL ?hc ?_); (case hc => first | assumption | exact Evl.sq_of (by assumption)))
  | ((with_reducible refine' r_lenT ?hc ?_); (case hc => first | assumption | exact Evl.st_of (by assumption)))
  | ((with_reducible refine' r_ixL ?h1 ?h2 ?h3 ?_); (case h1 => first | assumption | exact Evl.sq_of (by assumption) | exact Evl.sq_of upd_same); (case h2 => first | decide | omega); (case h3 => first | exact rfl | assumption))
  | ((with_reducible refine' r_ixT ?h1 ?h2 ?h3 ?_); (case h1 => first | assumption | exact Evl.st_of (by assumption)); (case h2 => first | decide | omega); (case h3 => first | exact rfl | assumption))
  | with_reducible refine r_T ?_
  | with_reducible refine r_notNn ?_
  | with_reducible refine r_notN_int ?_
  | with_reducible refine r_notN_str ?_
  | with_reducible refine r_notN_ref ?_
  | with_reducible refine r_isNn ?_
  | with_reducible refine r_isN_int ?_
  | with_reducible refine r_isN_str ?_
  | with_reducible refine r_isN_ref ?_
  | ((with_reducible refine' r_isi ?ht ?hk ?_); (case ht => first | exact .base (.int _) | exact .base (.bl _) | exact .base (.str _) | exact .base .non | exact .base (.lst (by assumption)) | exact .base (.tup (by assumption))); (case hk => first | exact kb_int_int | exact kb_int_bool | exact kb_int_str | exact kb_int_list | exact kb_int_tuple | exact kb_bool_int | exact kb_bool_bool | exact kb_bool_str | exact kb_bool_list | exact kb_bool_tuple | exact kb_str_int | exact kb_str_bool | exact kb_str_str | exact kb_str_list | exact kb_str_tuple | exact kb_NoneType_int | exact kb_NoneType_bool | exact kb_NoneType_str | exact kb_NoneType_list | exact kb_NoneType_tuple | exact kb_list_int | exact kb_list_bool | exact kb_list_str | exact kb_list_list | exact kb_list_tuple | exact kb_tuple_int | exact kb_tuple_bool | exact kb_tuple_str | exact kb_tuple_list | exact kb_tuple_tuple))
  | with_reducible refine r_F ?_
  | with_reducible refine r_nT ?_
  | with_reducible refine r_nF ?_
  | with_reducible refine r_mko ?_
  | with_reducible refine r_xf ?_
  | ((with_reducible refine' r_sum ?hc ?_); (case hc => first | assumption | exact Evl.sq_of (by assumption)))
  | ((with_reducible refine' r_setL ?h1 ?h2 ?h3 ?_); (case h1 => first | assumption | exact upd_same); (case h2 => first | decide | omega); (case h3 => first | (show _ < _; decide) | (simp; done)))
  | with_reducible refine r_int ?_
  | with_reducible refine r_abs ?_)
local macro_rules | `(tactic| walk_at "rd") => `(tactic| repeat (walk_at "rd1"))

section
variable {P : Program} {w : World} {K : PySem.W.Frag} {mg : Str → Option Value} {base : Heap}
def spRun : Sp := fun vs H Q _ => ∃ (l : List Nat) (i : Nat), vs = [.str (S l), .int (i : Int)] ∧ l.length ≤ 100000 ∧ i ≤ l.length ∧ Q (.str (S (dsOf (l.drop i)))) H
theorem ds_take2 {l : List Nat} {i : Nat} : (l.drop i).take (dsOf (l.drop i)).length = dsOf (l.drop i) := by
  have h := ds_rs (l.drop i)
  conv => lhs; arg 2; rw [← h]
  rw [List.take_left]
theorem slen {l : List Nat} (h : l.length ≤ 3) : (S l).length ≤ 640 := by rw [S_len]; omega
abbrev s_l_run : Stmt := topS 35
abbrev N_l_run : List Str := ["_law_text", "_law_spot", "_law_last"]
theorem sc_l_run : FnScope ["_law_text", "_law_spot", "_law_last"] ["_law_text", "_law_spot"] (defScope s_l_run) := ⟨rfl, rfl, rfl, by decide +kernel, rfl, by decide +kernel, by decide +kernel⟩
theorem can_l_run (T : Bi mg) (F : Defd K mg "_law_run" s_l_run ["_law_text", "_law_spot"]) : Can P w K mg base L2.CX0 1 "_law_run" ["_law_text", "_law_spot"] spRun := by
  refine can0 F sc_l_run (fun vs H Q E h => ?_) (fun f cdv A outer s H vs Q E hr h => ⟨_, (pss_cons (ps_set (i := 2) sc_l_run.nd rfl (by first | exact Or.inl rfl | exact Or.inr rfl) (pv 1))
  (pss_cons (ps_while PassesOwn.never (PW.pt (pw_and (pt_cmpR op_lt (pv 2) (pe_callB call_lenS (by rfl) T.b_len boot_len (pa_cons (pv 0) pa_nil)) (nomark _)) (pw_and1 (pt_cmpR op_inSS (pe_ix ix_strS (pv 0) (pv 2) (fun _ _ => rfl)) (pe_strL [48, 49, 50, 51, 52, 53, 54, 55, 56, 57] (by decide +kernel)) (by rfl))))) (pss_one (ps_set (i := 2) sc_l_run.nd rfl (by first | exact Or.inl rfl | exact Or.inr rfl) (pe_op op_add (pv 2) pe_int))))
  (pss_one (ps_ret (pe_slice sl_strS (pv 0) (po_some (pv 1)) (po_some (pv 2))))))), ?_⟩)
  · obtain ⟨_, _, rfl, _⟩ := h
    rfl
  · obtain ⟨l, i, rfl, hl, hi, q⟩ := h
    have dl := len_rs (l.drop i)
    rw [List.length_drop] at dl
    walk_at "rd"
    refine ⟨fun m σ' H' => ∃ k : Nat, σ' = [some (.str (S l)), some (.int (i : Int)), some (.int ((i + k : Nat) : Int))] ∧ H' = H ∧ m + k = (dsOf (l.drop i)).length, ⟨(dsOf (l.drop i)).length, 0, rfl, rfl, by omega⟩, fun m σ' H' hW => ?_⟩
    obtain ⟨k, rfl, rfl, hm⟩ := hW
    have out : k = (dsOf (l.drop i)).length → Q (.str (S (cutL l (some (i : Int)) (some ((i + k : Nat) : Int))))) H' := fun hk => by
      rw [cut_mid (by omega) (by omega), Int.toNat_natCast, Int.toNat_natCast, show i + k - i = k by omega, hk, ds_take2]
      exact q
    walk_at "rd"
    refine r_ite (fun h => ?_) (fun h => ?_)
    · have hik : i + k < l.length := by omega
      have g : l[((i + k : Nat) : Int).toNat]? = some l[i + k] := by rw [Int.toNat_natCast]; exact List.getElem?_eq_getElem hik
      walk_at "rd"
      refine r_ixSS (small (by omega)) (by omega) g ?_
      walk_at "rd"
      have g2 : (l.drop i)[k]? = some l[i + k] := by rw [List.getElem?_drop]; exact List.getElem?_eq_getElem hik
      refine r_ite (fun h2 => ?_) (fun h2 => ?_)
      · have hk : k < (dsOf (l.drop i)).length := by
          rcases Nat.lt_or_ge k (dsOf (l.drop i)).length with z | z
          · exact z
          · have e : k = (dsOf (l.drop i)).length := by omega
            have e2 := tw_end (p := isDig) (l.drop i) l[i + k] (by rw [← g2, e]; rfl)
            rw [← dgl] at e2
            exact absurd h2 (of_decide_eq_false e2)
        refine ⟨fun σ2 H2 => ∃ k2 : Nat, σ2 = [some (.str (S l)), some (.int (i : Int)), some (.int ((i + k2 : Nat) : Int))] ∧ H2 = H' ∧ (m - 1) + k2 = (dsOf (l.drop i)).length, fun σ2 H2 z => ⟨m - 1, by omega, z⟩, ?_⟩
        walk_at "rd"
        exact ⟨k + 1, by rw [show ((i + (k + 1) : Nat) : Int) = ((i + k : Nat) : Int) + 1 by omega]; rfl, rfl, by omega⟩
      · have hk : k = (dsOf (l.drop i)).length := by
          rcases Nat.lt_or_ge k (dsOf (l.drop i)).length with z | z
          · obtain ⟨c, c1, c2⟩ := tw_get (p := isDig) (l.drop i) k z
            rw [g2] at c1
            rw [← Option.some.inj c1, ← dgl] at c2
            exact absurd (of_decide_eq_true c2) h2
          · omega
        walk_at "rd"
        exact out hk
    · have hk : k = (dsOf (l.drop i)).length := by omega
      walk_at "rd"
      exact out hk
def spFill : Sp := fun vs H Q _ => ∃ (v : V) (p : Pr) (run : List Nat), vs = [v, .str (S run)] ∧ PrAt H v p ∧ OkP p ∧ run ≠ [] ∧ run.length ≤ 100000 ∧ (∀ c ∈ run, isDig c = true) ∧ (fill p run = none → Q .non H) ∧ ∀ g, fill p run = some g → ∀ z H', Ex H H' → PrAt H' z g → Q z H'
abbrev s_l_fill : Stmt := topS 36
abbrev N_l_fill : List Str := ["_law_part", "_law_run_here"]
theorem sc_l_fill : FnScope ["_law_part", "_law_run_here"] ["_law_part", "_law_run_here"] (defScope s_l_fill) := ⟨rfl, rfl, rfl, by decide +kernel, rfl, by decide +kernel, by decide +kernel⟩
theorem can_l_fill (T : Bi mg) (F : Defd K mg "_law_fill" s_l_fill ["_law_part", "_law_run_here"]) : Can P w K mg base L2.CX0 1 "_law_fill" ["_law_part", "_law_run_here"] spFill := by
  refine can0 F sc_l_fill (fun vs H Q E h => ?_) (fun f cdv A outer s H vs Q E hr h => ⟨_, (pss_cons (ps_if (PW.pt (pw_or (pt_cmpR op_eq (pe_ix ix_strS (pv 1) pe_int (fun _ _ => rfl)) (pe_strL [48] (by decide +kernel)) (nomark _)) (pw_or (pt_cmpR op_gt (pe_callB call_lenS (by rfl) T.b_len boot_len (pa_cons (pv 1) pa_nil)) pe_int (nomark _)) (pw_or (pt_cmpR op_gt (pe_callTy call_int_str (by rfl) T.b_int boot_int (pa_cons (pv 1) pa_nil)) pe_int (nomark _)) (pw_or1 (pt_cmpR op_lt (pe_callTy call_int_str (by rfl) T.b_int boot_int (pa_cons (pv 1) pa_nil)) (pe_ix ix_tup (pv 0) pe_int (fun _ _ => rfl)) (nomark _))))))) (pss_one (ps_ret pe_non)) pss_nil)
  (pss_one (ps_ret (pe_tup (pa_cons (pe_callTy call_int_str (by rfl) T.b_int boot_int (pa_cons (pv 1) pa_nil)) (pa_cons (pe_op op_catS (pe_ix ix_tup (pv 0) pe_int (fun _ _ => rfl)) (pe_op op_repS (pe_strL [46] (by decide +kernel)) (pe_op op_sub (pe_callTy call_int_str (by rfl) T.b_int boot_int (pa_cons (pv 1) pa_nil)) (pe_ix ix_tup (pv 0) pe_int (fun _ _ => rfl))))) pa_nil)))))), ?_⟩)
  · obtain ⟨_, _, _, rfl, _⟩ := h
    rfl
  · obtain ⟨v, p, run, rfl, ⟨a, rfl, ha⟩, op, hne, hl, hd, q1, q2⟩ := h
    cases run with
    | nil => exact absurd rfl hne
    | cons c r =>
      have g : (c :: r)[(0 : Int).toNat]? = some c := rfl
      have ef : fill p (c :: r) = if c = 48 then none else if 2 < (c :: r).length ∨ 24 < dval (c :: r) ∨ dval (c :: r) < p.1 then none else some (dval (c :: r), p.2 ++ List.replicate (dval (c :: r) - p.1) 46) := rfl
      walk_at "rd"
      refine r_ixSS (small (by omega)) (by decide) g ?_
      walk_at "rd"
      refine r_ite (fun h => ?_) (fun h => ?_)
      · have h48 : c = 48 := by injection h
        walk_at "rd"
        exact q1 (by rw [ef, if_pos h48])
      have h48 : c ≠ 48 := fun z => h (by rw [z])
      rw [if_neg h48] at ef
      walk_at "rd"
      refine r_ite (fun h => ?_) (fun h => ?_)
      · walk_at "rd"
        exact q1 (by rw [ef, if_pos (.inl (by omega))])
      walk_at "rd"
      refine ⟨_, _, rfl, int_digits (by simp) (by omega) hd, slen (by omega), ?_⟩
      walk_at "rd"
      refine r_ite (fun h2 => ?_) (fun h2 => ?_)
      · walk_at "rd"
        exact q1 (by rw [ef, if_pos (.inr (.inl (by omega)))])
      walk_at "rd"
      refine ⟨_, _, rfl, int_digits (by simp) (by omega) hd, slen (by omega), ?_⟩
      walk_at "rd"
      refine r_ite (fun h3 => ?_) (fun h3 => ?_)
      · walk_at "rd"
        exact q1 (by rw [ef, if_pos (.inr (.inr (by omega)))])
      have p24 : p.1 ≤ 24 := by omega
      have rv : rowV p = .str (S p.2) := if_pos p24
      have rl := op.row p24
      rw [rv] at ha
      walk_at "rd"
      refine ⟨_, _, rfl, int_digits (by simp) (by omega) hd, slen (by omega), ?_⟩
      walk_at "rd"
      refine ⟨_, _, rfl, int_digits (by simp) (by omega) hd, slen (by omega), ?_⟩
      walk_at "rd"
      refine r_repS (by omega) (by omega) (small (by show 1 * _ ≤ 1000000; omega)) ?_
      have e1 : (List.replicate ((dval (c :: r) : Int) - (p.1 : Int)).toNat ([46] : List Nat)).flatten = List.replicate (dval (c :: r) - p.1) 46 := by
        rw [show ((dval (c :: r) : Int) - (p.1 : Int)).toNat = dval (c :: r) - p.1 by omega]
        have := often_sign (dval (c :: r) - p.1) 46 (by omega)
        unfold often kept rep at this
        have h2 := congrArg Prod.snd this
        have h2' : (if (dval (c :: r) - p.1) * 1 ≤ 24 then (List.replicate (dval (c :: r) - p.1) ([46] : List Nat)).flatten else []) = List.replicate (dval (c :: r) - p.1) 46 := h2
        rw [if_pos (by omega)] at h2'
        exact h2'
      rw [e1]
      walk_at "rd"
      refine r_catS (small (by rw [List.length_replicate]; omega)) ?_
      walk_at "rd"
      refine ⟨small (by show 2 ≤ 1000000; decide), fun z hz => ?_⟩
      refine q2 _ (by rw [ef, if_neg (by omega)]) _ _ (Evl.Ex.new hz) ⟨z, rfl, ?_⟩
      rw [upd_same]
      have e : rowV (dval (c :: r), p.2 ++ List.replicate (dval (c :: r) - p.1) 46) = .str (S (p.2 ++ List.replicate (dval (c :: r) - p.1) 46)) := if_pos (by show dval (c :: r) ≤ 24; omega)
      rw [e]
def spTimes : Sp := fun vs H Q _ => ∃ (run fo : List Nat), vs = [.str (S run), .str (S fo)] ∧ run.length ≤ 100000 ∧ fo.length ≤ 1 ∧ (∀ c ∈ run, isDig c = true) ∧ (tms run fo = none → Q .non H) ∧ ∀ g, tms run fo = some g → Q (.int g) H
theorem stands_in (c : Nat) : decide (c ∈ ([46, 103, 114, 119, 40] : List Nat)) = stands [c] := by
  rw [stands_one]
  unfold isSg
  by_cases h : c = 46 ∨ c = 103 ∨ c = 114 ∨ c = 119
  · rw [decide_eq_true h, decide_eq_true (by simp only [List.mem_cons, List.not_mem_nil, or_false]; omega)]
    rfl
  · rw [decide_eq_false h]
    by_cases h2 : c = 40
    · rw [decide_eq_true h2, decide_eq_true (by simp only [List.mem_cons, List.not_mem_nil, or_false]; omega)]
      rfl
    · rw [decide_eq_false h2, decide_eq_false (by simp only [List.mem_cons, List.not_mem_nil, or_false]; omega)]
      rfl
abbrev s_l_times : Stmt := topS 37
abbrev N_l_times : List Str := ["_law_run_here", "_law_follow"]
theorem sc_l_times : FnScope ["_law_run_here", "_law_follow"] ["_law_run_here", "_law_follow"] (defScope s_l_times) := ⟨rfl, rfl, rfl, by decide +kernel, rfl, by decide +kernel, by decide +kernel⟩
theorem can_l_times (T : Bi mg) (F : Defd K mg "_law_times" s_l_times ["_law_run_here", "_law_follow"]) : Can P w K mg base L2.CX0 1 "_law_times" ["_law_run_here", "_law_follow"] spTimes := by
  refine can0 F sc_l_times (fun vs H Q E h => ?_) (fun f cdv A outer s H vs Q E hr h => ⟨_, (pss_cons (ps_if (pt_cmpR op_eq (pv 0) (pe_strL [] (by decide +kernel)) (nomark _)) (pss_one (ps_ret pe_int)) pss_nil)
  (pss_cons (ps_if (pt_cmpR op_eq (pe_ix ix_strS (pv 0) pe_int (fun _ _ => rfl)) (pe_strL [48] (by decide +kernel)) (nomark _)) (pss_one (ps_ret pe_non)) pss_nil)
  (pss_cons (ps_if (PW.pt (pw_or (pt_cmpR op_eq (pv 1) (pe_strL [] (by decide +kernel)) (nomark _)) (pw_or1 (pt_cmpR op_niS (pv 1) (pe_strL [46, 103, 114, 119, 40] (by decide +kernel)) (by rfl))))) (pss_one (ps_ret (pe_un un_neg pe_int))) pss_nil)
  (pss_cons (ps_if (PW.pt (pw_or (pt_cmpR op_gt (pe_callB call_lenS (by rfl) T.b_len boot_len (pa_cons (pv 0) pa_nil)) pe_int (nomark _)) (pw_or (pt_cmpR op_lt (pe_callTy call_int_str (by rfl) T.b_int boot_int (pa_cons (pv 0) pa_nil)) pe_int (nomark _)) (pw_or1 (pt_cmpR op_gt (pe_callTy call_int_str (by rfl) T.b_int boot_int (pa_cons (pv 0) pa_nil)) pe_int (nomark _)))))) (pss_one (ps_ret pe_non)) pss_nil)
  (pss_one (ps_ret (pe_callTy call_int_str (by rfl) T.b_int boot_int (pa_cons (pv 0) pa_nil)))))))), ?_⟩)
  · obtain ⟨_, _, rfl, _⟩ := h
    rfl
  · obtain ⟨run, fo, rfl, hl, hf, hd, q1, q2⟩ := h
    cases run with
    | nil =>
      walk_at "rd"
      refine r_ite (fun _ => ?_) (fun z => absurd rfl z)
      walk_at "rd"
      exact q2 1 rfl
    | cons c r =>
      have g : (c :: r)[(0 : Int).toNat]? = some c := rfl
      have ef : tms (c :: r) fo = if c = 48 then none else if stands fo = false then some (-1) else if 2 < (c :: r).length ∨ dval (c :: r) < 2 ∨ 24 < dval (c :: r) then none else some (dval (c :: r) : Int) := rfl
      walk_at "rd"
      refine r_ite (fun z => nomatch (show (c :: r : List Nat) = [] from by injection z)) (fun _ => ?_)
      walk_at "rd"
      refine r_ixSS (small (by omega)) (by decide) g ?_
      walk_at "rd"
      refine r_ite (fun h => ?_) (fun h => ?_)
      · have h48 : c = 48 := by injection h
        walk_at "rd"
        exact q1 (by rw [ef, if_pos h48])
      have h48 : c ≠ 48 := fun z => h (by rw [z])
      rw [if_neg h48] at ef
      walk_at "rd"
      have rest : stands fo = true → True := fun _ => trivial
      cases fo with
      | nil =>
        refine r_ite (fun _ => ?_) (fun z => absurd rfl z)
        walk_at "rd"
        exact q2 _ (by rw [ef, if_pos (show stands [] = false from rfl)])
      | cons x y =>
        have hy : y = [] := List.length_eq_zero_iff.mp (by rw [List.length_cons] at hf; omega)
        subst hy
        refine r_ite (fun z => nomatch (show ([x] : List Nat) = [] from by injection z)) (fun _ => ?_)
        walk_at "rd"
        rw [stands_in]
        by_cases hs : stands [x] = true
        · rw [hs]
          rw [if_neg (by rw [hs]; decide)] at ef
          walk_at "rd"
          refine r_ite (fun h => ?_) (fun h => ?_)
          · walk_at "rd"
            exact q1 (by rw [ef, if_pos (.inl (by omega))])
          walk_at "rd"
          refine ⟨_, _, rfl, int_digits (by simp) (by omega) hd, slen (by omega), ?_⟩
          walk_at "rd"
          refine r_ite (fun h2 => ?_) (fun h2 => ?_)
          · walk_at "rd"
            exact q1 (by rw [ef, if_pos (.inr (.inl (by omega)))])
          walk_at "rd"
          refine ⟨_, _, rfl, int_digits (by simp) (by omega) hd, slen (by omega), ?_⟩
          walk_at "rd"
          refine r_ite (fun h3 => ?_) (fun h3 => ?_)
          · walk_at "rd"
            exact q1 (by rw [ef, if_pos (.inr (.inr (by omega)))])
          walk_at "rd"
          refine ⟨_, _, rfl, int_digits (by simp) (by omega) hd, slen (by omega), ?_⟩
          exact q2 _ (by rw [ef, if_neg (by omega)])
        · have hs' : stands [x] = false := Bool.eq_false_iff.mpr hs
          rw [hs']
          rw [if_pos hs'] at ef
          walk_at "rd"
          exact q2 _ ef
/-! ### the stack -/
def FrAt (H : Hp) (v : V) (f : Frm) : Prop := ∃ (a : Addr) (x y : V), v = .ref a ∧ H a = some (.tup [.int (f.1 : Int), x, y]) ∧ PsAt H x f.2.1 ∧ PrAt H y f.2.2
theorem FrAt.ex {H H' : Hp} {v : V} {f : Frm} (h : FrAt H v f) (e : Ex H H') : FrAt H' v f := by
  obtain ⟨a, x, y, h1, h2, h3, h4⟩ := h
  exact ⟨a, x, y, h1, e _ _ h2, h3.ex e, h4.ex e⟩
def StkAt (H : Hp) (v : V) (k : List Frm) : Prop := ∃ (a : Addr) (vs : List V), v = .ref a ∧ H a = some (.lst vs) ∧ All2 (FrAt H) vs k.reverse
theorem StkAt.ex {H H' : Hp} {v : V} {k : List Frm} (h : StkAt H v k) (e : Ex H H') : StkAt H' v k := by
  obtain ⟨a, vs, h1, h2, h3⟩ := h
  exact ⟨a, vs, h1, e _ _ h2, h3.map fun v x h => h.ex e⟩
theorem All2.last {α : Type} {R : V → α → Prop} {vs : List V} {xs : List α} {x : α} (h : All2 R vs (xs ++ [x])) : ∃ ws w, vs = ws ++ [w] ∧ All2 R ws xs ∧ R w x := by
  have hl := h.1
  rw [List.length_append] at hl
  have hl' : vs.length = xs.length + 1 := hl
  have ne : vs ≠ [] := fun z => by rw [z] at hl'; cases hl'
  obtain ⟨ws, w, rfl⟩ : ∃ ws w, vs = ws ++ [w] := ⟨vs.dropLast, vs.getLast ne, (List.dropLast_concat_getLast ne).symm⟩
  have h2 := h.2.1
  rw [List.length_append] at hl' h2
  have hw : ws.length = xs.length := by
    have : ws.length + 1 = xs.length + 1 := hl'
    omega
  have hw2 : ws.length + 1 ≤ 2100 := h2
  refine ⟨ws, w, rfl, ⟨hw, by omega, fun k v y h1 h2 => ?_⟩, ?_⟩
  · have hk := lt_of_get h1
    refine h.2.2 k v y ?_ ?_
    · rw [List.getElem?_append_left hk]
      exact h1
    · rw [List.getElem?_append_left (by omega)]
      exact h2
  · refine h.2.2 xs.length _ _ ?_ ?_
    · rw [List.getElem?_append_right (by omega), show xs.length - ws.length = 0 by omega]
      rfl
    · rw [List.getElem?_append_right (Nat.le_refl _), Nat.sub_self]
      rfl
theorem at_last {ws : List V} {w : V} : atI (ws ++ [w]) (-1) = some w := by
  unfold atI ixN
  rw [List.length_append]
  rw [if_neg (by decide), if_pos (by show -((ws.length + 1 : Nat) : Int) ≤ -1; omega)]
  show (ws ++ [w])[((-1 : Int) + ((ws.length + 1 : Nat) : Int)).toNat]? = some w
  rw [show ((-1 : Int) + ((ws.length + 1 : Nat) : Int)).toNat = ws.length by omega, List.getElem?_append_right (Nat.le_refl _), Nat.sub_self]
  rfl
theorem cut_last {ws : List V} {w : V} : cutV (ws ++ [w]) none (some (-1)) = ws := by
  unfold cutV
  have e1 : HT.sIx (ws ++ [w]).length (ws ++ [w]).length (some (-1)) = ws.length := by
    show (if (-1 : Int) < 0 then ((-1 : Int) + ((ws ++ [w]).length : Int)).toNat else min (-1 : Int).toNat (ws ++ [w]).length) = ws.length
    rw [if_pos (by decide), List.length_append]
    show ((-1 : Int) + ((ws.length + 1 : Nat) : Int)).toNat = ws.length
    omega
  have e2 : HT.sIx (ws ++ [w]).length 0 none = 0 := rfl
  rw [e1, e2, List.drop_zero, Nat.sub_zero, List.take_left]
def closeM (k : List Frm) (ps : List Pr) (p : Pr) (c : Nat) : Option (List Frm × List Pr × Pr) :=
  if p.1 = 0 ∨ (c = 41 ∧ k = []) then none else if c = 38 then some (k, ps ++ [p], (0, [])) else match k with
    | [] => none
    | (t, ps0, p0) :: k => some (k, ps0, behind p0 (often t (togL (ps ++ [p]))))
def spClose : Sp := fun vs H Q _ => ∃ (sv pv qv : V) (k : List Frm) (ps : List Pr) (p : Pr) (c : Nat), vs = [sv, pv, qv, .str (S [c])] ∧ StkAt H sv k ∧ PsAt H pv ps ∧ PrAt H qv p ∧ (c = 38 ∨ c = 41) ∧ ps.length ≤ 2000 ∧ (∀ q ∈ ps, OkP q ∧ q.1 ≠ 0) ∧ OkP p ∧ (p.1 ≠ 0 → many (ps ++ [p]) < 2 ^ 8500) ∧ (∀ f ∈ k, 1 ≤ f.1 ∧ f.1 ≤ 24 ∧ OkP f.2.2) ∧
  (closeM k ps p c = none → ∀ H', Ex H H' → Q .non H') ∧ ∀ k' ps' p', closeM k ps p c = some (k', ps', p') → ∀ z H' a b e, Ex H H' → H' z = some (.tup [a, b, e]) → StkAt H' a k' → PsAt H' b ps' → PrAt H' e p' → Q (.ref z) H'
abbrev s_l_close : Stmt := topS 38
abbrev N_l_close : List Str := ["_law_stack", "_law_parts", "_law_part", "_law_here", "_law_whole", "_law_outer"]
theorem sc_l_close : FnScope ["_law_stack", "_law_parts", "_law_part", "_law_here", "_law_whole", "_law_outer"] ["_law_stack", "_law_parts", "_law_part", "_law_here"] (defScope s_l_close) := ⟨rfl, rfl, rfl, by decide +kernel, rfl, by decide +kernel, by decide +kernel⟩
theorem can_l_close (T : Bi mg) (F : Defd K mg "_law_close" s_l_close ["_law_stack", "_law_parts", "_law_part", "_law_here"]) (C_l_behind : Can P w K mg base L2.CX0 1 "_law_behind" ["_law_one", "_law_two"] spBehind) (C_l_often : Can P w K mg base L2.CX0 1 "_law_often" ["_law_one", "_law_times_here"] spOften) (C_l_together : Can P w K mg base L2.CX0 2 "_law_together" ["_law_parts"] spTog) : Can P w K mg base L2.CX0 3 "_law_close" ["_law_stack", "_law_parts", "_law_part", "_law_here"] spClose := by
  refine can0 F sc_l_close (fun vs H Q E h => ?_) (fun f cdv A outer s H vs Q E hr h => ⟨_, (pss_cons (ps_if (PW.pt (pw_or (pt_cmpR op_eq (pe_ix ix_tup (pv 2) pe_int (fun _ _ => rfl)) pe_int (nomark _)) (pw_or1 (PW.pt (pw_and (pt_cmpR op_eq (pv 3) (pe_strL [41] (by decide +kernel)) (nomark _)) (pw_and1 (pt_not (pt_truth (pv 0) (fun _ => rfl))))))))) (pss_one (ps_ret pe_non)) pss_nil)
  (pss_cons (ps_set (i := 4) sc_l_close.nd rfl (by first | exact Or.inl rfl | exact Or.inr rfl) (pe_op op_cat (pv 1) (pe_lst (pa_cons (pv 2) pa_nil))))
  (pss_cons (ps_if (pt_cmpR op_eq (pv 3) (pe_strL [38] (by decide +kernel)) (nomark _)) (pss_one (ps_ret (pe_tup (pa_cons (pv 0) (pa_cons (pv 4) (pa_cons (pe_tup (pa_cons pe_int (pa_cons (pe_strL [] (by decide +kernel)) pa_nil))) pa_nil)))))) pss_nil)
  (pss_cons (ps_set (i := 5) sc_l_close.nd rfl (by first | exact Or.inl rfl | exact Or.inr rfl) (pe_ix ix_list (pv 0) (pe_un un_neg pe_int) (fun _ _ => rfl)))
  (pss_one (ps_ret (pe_tup (pa_cons (pe_slice sl_list (pv 0) po_none (po_some (pe_un un_neg pe_int))) (pa_cons (pe_ix ix_tup (pv 5) pe_int (fun _ _ => rfl)) (pa_cons (pe_can C_l_behind hr (by decide) rfl (pa_cons (pe_ix ix_tup (pv 5) pe_int (fun _ _ => rfl)) (pa_cons (pe_can C_l_often hr (by decide) rfl (pa_cons (pe_can C_l_together hr (by decide) rfl (pa_cons (pv 4) pa_nil)) (pa_cons (pe_ix ix_tup (pv 5) pe_int (fun _ _ => rfl)) pa_nil))) pa_nil))) pa_nil)))))))))), ?_⟩)
  · obtain ⟨_, _, _, _, _, _, _, rfl, _⟩ := h
    rfl
  · obtain ⟨sv, pv, qv, k, ps, p, c, rfl, ⟨sa, ss, rfl, hs, sall⟩, ⟨pa, vs, rfl, hv, pall⟩, ⟨qa, rfl, hq⟩, hc, pl, pok, op, big, fok, q1, q2⟩ := h
    have hvs : vs.length = ps.length := pall.1
    have go : p.1 ≠ 0 → ¬ (c = 41 ∧ k = []) → (∀ W H1, Ex H H1 → H1 W = some (.lst (vs ++ [.ref qa])) → PsAt H1 (.ref W) (ps ++ [p])) := fun _ _ W H1 ex hW => ⟨W, _, rfl, hW, (pall.map fun v x h => h.ex ex).snoc (by omega) ⟨qa, rfl, ex _ _ hq⟩⟩
    walk_at "rd"
    refine r_ite (fun h0 => ?_) (fun h0 => ?_)
    · walk_at "rd"
      exact q1 (by unfold closeM; rw [if_pos (.inl (by omega))]) H (Evl.Ex.refl _)
    have p0 : p.1 ≠ 0 := by omega
    have fin0 : rowV (0, []) = .str (S []) := rfl
    have out38 : c = 38 → ∀ W H1, Ex H H1 → H1 W = some (.lst (vs ++ [.ref qa])) → ∀ z1, H1 z1 = none → ∀ z2, (upd H1 z1 (.tup [.int 0, .str (S [])])) z2 = none → Q (.ref z2) (upd (upd H1 z1 (.tup [.int 0, .str (S [])])) z2 (.tup [.ref sa, .ref W, .ref z1])) := by
      intro h38 W H1 ex hW z1 hz1 z2 hz2
      have ex1 := Evl.Ex.new (o := .tup [.int 0, .str (S [])]) hz1
      have g1 : (upd H1 z1 (.tup [.int 0, .str (S [])])) z1 = some (.tup [.int 0, .str (S [])]) := upd_same
      generalize upd H1 z1 (.tup [.int 0, .str (S [])]) = H2 at ex1 g1 hz2 ⊢
      have ex2 := Evl.Ex.new (o := .tup [.ref sa, .ref W, .ref z1]) hz2
      have e : closeM k ps p c = some (k, ps ++ [p], (0, [])) := by
        unfold closeM
        rw [if_neg (by rintro (z | ⟨z, _⟩) <;> omega), if_pos h38]
      have exA := (ex.trans ex1).trans ex2
      exact q2 _ _ _ e z2 _ _ _ _ exA upd_same (StkAt.ex ⟨sa, ss, rfl, hs, sall⟩ exA) ((go p0 (by rintro ⟨z, _⟩; omega) W H1 ex hW).ex (ex1.trans ex2)) ⟨z1, rfl, by rw [fin0]; exact ex2 _ _ g1⟩
    rcases hc with rfl | rfl
    · walk_at "rd"
      refine r_ite (fun z => nomatch (show (38 : Nat) = 41 from by injection z)) (fun _ => ?_)
      walk_at "rd"
      refine ⟨small (by show 1 ≤ 1000000; decide), fun G hG => ?_⟩
      have exG := Evl.Ex.new (o := .lst [.ref qa]) hG
      have gG : (upd H G (.lst [.ref qa])) G = some (.lst [.ref qa]) := upd_same
      generalize upd H G (.lst [.ref qa]) = H1 at exG gG ⊢
      refine ⟨_, _, _, _, rfl, rfl, exG _ _ hv, gG, by rw [sizeLine_eq]; show _ + 1 ≤ _; omega, fun W hW => ?_⟩
      have exW := Evl.Ex.new (o := .lst (vs ++ [.ref qa])) hW
      have gW : (upd H1 W (.lst (vs ++ [.ref qa]))) W = some (.lst (vs ++ [.ref qa])) := upd_same
      generalize upd H1 W (.lst (vs ++ [.ref qa])) = H2 at exW gW ⊢
      have ex2 := exG.trans exW
      walk_at "rd"
      refine r_ite (fun _ => ?_) (fun z => absurd rfl z)
      walk_at "rd"
      refine ⟨small (by show 2 ≤ 1000000; decide), fun z1 hz1 => ?_⟩
      walk_at "rd"
      exact ⟨small (by show 3 ≤ 1000000; decide), fun z2 hz2 => out38 rfl W H2 ex2 gW z1 hz1 z2 hz2⟩
    · walk_at "rd"
      refine r_ite (fun _ => ?_) (fun z => absurd rfl z)
      cases k with
      | nil =>
        have hss : ss = [] := List.length_eq_zero_iff.mp sall.1
        subst hss
        walk_at "rd"
        refine ⟨false, .inl ⟨[], Evl.sq_of hs, rfl⟩, ?_⟩
        walk_at "rd"
        exact q1 (by unfold closeM; rw [if_pos (.inr ⟨rfl, rfl⟩)]) H (Evl.Ex.refl _)
      | cons fr k =>
      obtain ⟨t0, ps0, p0'⟩ := fr
      rw [List.reverse_cons] at sall
      obtain ⟨ws, w, rfl, wall, ⟨fa, fx, fy, rfl, hf, hfx, hfy⟩⟩ := sall.last
      obtain ⟨f1, f2, f3⟩ := fok _ (List.mem_cons_self ..)
      have hf' : H fa = some (.tup [.int (t0 : Int), fx, fy]) := hf
      walk_at "rd"
      refine ⟨true, .inl ⟨_, Evl.sq_of hs, ?_⟩, ?_⟩
      · cases ws with
        | nil => rfl
        | cons _ _ => rfl
      walk_at "rd"
      refine ⟨small (by show 1 ≤ 1000000; decide), fun G hG => ?_⟩
      have exG := Evl.Ex.new (o := .lst [.ref qa]) hG
      have gG : (upd H G (.lst [.ref qa])) G = some (.lst [.ref qa]) := upd_same
      generalize upd H G (.lst [.ref qa]) = H1 at exG gG ⊢
      refine ⟨_, _, _, _, rfl, rfl, exG _ _ hv, gG, by rw [sizeLine_eq]; show _ + 1 ≤ _; omega, fun W hW => ?_⟩
      have exW := Evl.Ex.new (o := .lst (vs ++ [.ref qa])) hW
      have gW : (upd H1 W (.lst (vs ++ [.ref qa]))) W = some (.lst (vs ++ [.ref qa])) := upd_same
      generalize upd H1 W (.lst (vs ++ [.ref qa])) = H2 at exW gW ⊢
      have ex2 := exG.trans exW
      walk_at "rd"
      refine r_ite (fun z => nomatch (show (41 : Nat) = 38 from by injection z)) (fun _ => ?_)
      walk_at "rd"
      refine ⟨_, _, _, _, rfl, rfl, Evl.sq_of (ex2 _ _ hs), at_last, ?_⟩
      have hf2 := ex2 _ _ hf'
      walk_at "rd"
      refine ⟨_, _, rfl, Evl.sq_of (ex2 _ _ hs), fun Z hZ => ?_⟩
      rw [cut_last]
      have exZ := Evl.Ex.new (o := .lst ws) hZ
      have gZ : (upd H2 Z (.lst ws)) Z = some (.lst ws) := upd_same
      generalize upd H2 Z (.lst ws) = H3 at exZ gZ ⊢
      have ex3 := ex2.trans exZ
      have hf3 := exZ _ _ hf2
      have allok : ∀ q ∈ ps ++ [p], OkP q ∧ q.1 ≠ 0 := fun q hq => by
        rcases List.mem_append.mp hq with z | z
        · exact pok q z
        · have : q = p := by simpa using z
          rw [this]; exact ⟨op, p0⟩
      have e : closeM ((t0, ps0, p0') :: k) ps p 41 = some (k, ps0, behind p0' (often t0 (togL (ps ++ [p])))) := by
        unfold closeM
        rw [if_neg (by rintro (z | ⟨_, z⟩); exact p0 z; cases z), if_neg (by decide)]
      walk_at "rd"
      refine ⟨.ref W, ps ++ [p], rfl, (go p0 (by rintro ⟨_, z⟩; cases z) W H2 ex2 gW).ex exZ, allok, big p0, fun y1 H4 ex4 hy1 => ?_⟩
      have hf4 := ex4 _ _ hf3
      walk_at "rd"
      refine ⟨y1, t0, togL (ps ++ [p]), rfl, hy1, okP_tog _, f1, f2, fun y2 H5 ex5 hy2 => ?_⟩
      have exB := (ex3.trans ex4).trans ex5
      walk_at "rd"
      refine ⟨fy, y2, p0', often t0 (togL (ps ++ [p])), rfl, hfy.ex exB, hy2, f3, okP_often f1 (okP_tog _), fun y3 H6 ex6 hy3 => ?_⟩
      walk_at "rd"
      refine ⟨small (by show 3 ≤ 1000000; decide), fun z hz => ?_⟩
      have exE := Evl.Ex.new (o := .tup [.ref Z, fx, y3]) hz
      have exC := exB.trans (ex6.trans exE)
      exact q2 _ _ _ e z _ _ _ _ exC upd_same (StkAt.ex (H := H3) ⟨Z, ws, rfl, gZ, wall.map fun v x h => h.ex ex3⟩ ((ex4.trans ex5).trans (ex6.trans exE))) (hfx.ex exC) (hy3.ex exE)
end
end Fk

set_option Elab.async false
set_option linter.all false
set_option maxRecDepth 100000
set_option maxHeartbeats 4000000
namespace Fk
open PySem PySem.Spec PyProof.Rows L2 Fg Rt
local macro_rules | `(tactic| walk_at "rd1") => `(tactic| first
  | with_reducible refine r_seq ?_
  | with_reducible refine r_asg ?_
  | with_reducible refine r_gname ?_
  | with_reducible refine r_gsub ?_
  | with_reducible refine r_ret ?_
  | with_reducible refine r_retN ?_
  | with_reducible refine r_next ?_
  | with_reducible refine r_drop ?_
  | with_reducible refine r_ifS ?_
  | with_reducible refine r_if ?_
  | with_reducible refine r_par ?_
  | with_reducible refine r_pair ?_
  | with_reducible refine r_test ?_
  | with_reducible refine r_tB ?_
  | with_reducible refine r_not ?_
  | with_reducible refine r_and ?_
  | with_reducible refine r_or ?_
  | with_reducible refine r_andV ?_
  | with_reducible refine r_orV ?_
  | with_reducible refine r_notV ?_
  | with_reducible refine r_nil ?_
  | with_reducible refine r_cons ?_
  | with_reducible refine r_call ?_
  | with_reducible refine r_callS ?_
  | with_reducible refine r_cb ?_
  | with_reducible refine r_then ?_
  | with_reducible refine r_tup ?_
  | with_reducible refine r_lst ?_
  | with_reducible refine r_sl ?_
  | with_reducible refine r_nopart ?_
  | with_reducible refine r_part ?_
  | with_reducible refine r_lcR1 ?_
  | with_reducible refine r_lcR2 ?_
  | with_reducible refine r_lcL ?_
  | with_reducible refine r_lcT ?_
  | with_reducible refine r_forR1 ?_
  | with_reducible refine r_forR2 ?_
  | with_reducible refine r_forL ?_
  | with_reducible refine r_forT ?_
  | with_reducible refine r_forE ?_
  | with_reducible refine r_strE ?_
  | ((with_reducible refine r_rng1 ?hc ?_); (case hc => omega))
  | ((with_reducible refine r_rng2 ?hc ?_); (case hc => omega))
  | ((with_reducible refine' r_refL ?hc ?_); (case hc => first | assumption | exact Evl.sq_of (by assumption)))
  | ((with_reducible refine' r_refT ?hc ?_); (case hc => first | assumption | exact Evl.st_of (by assumption)))
  | with_reducible refine r_op ?_
  | with_reducible refine r_un ?_
  | with_reducible refine r_chain ?_
  | ((with_reducible refine' r_var ?hv ?_); (case hv => exact rfl))
  | with_reducible refine r_cS ?_
  | with_reducible refine r_cs ?_
  | with_reducible refine r_c ?_
  | with_reducible refine r_yes ?_
  | with_reducible refine r_bm ?_
  | with_reducible refine r_bl ?_
  | with_reducible refine r_in ?_
  | with_reducible refine r_ty ?_
  | with_reducible refine r_I0 ?_
  | ((with_reducible refine r_I ?hc ?_); (case hc => first | assumption | (show (0 : Int) < _; decide) | exact Or.inr ⟨by decide, by decide⟩ | exact Or.inr ⟨by omega, by omega⟩ | exact Or.inl ⟨by decide, by decide⟩ | exact (show CDivW _ _ from ⟨by decide, by decide +kernel⟩) | exact (show CPowW _ _ from ⟨by decide, by decide +kernel⟩) | (show (0 : Int) < _; omega)))
  | with_reducible refine r_U ?_
  | with_reducible refine r_eqI ?_
  | with_reducible refine r_neI ?_
  | with_reducible refine r_eqS ?_
  | with_reducible refine r_neS ?_
  | with_reducible refine r_eqB ?_
  | with_reducible refine r_neB ?_
  | with_reducible refine r_niS ?_
  | with_reducible refine r_inSS ?_
  | ((with_reducible refine r_slSS ?hc ?_); (case hc => first | exact small (by omega) | exact small (by simp; omega)))
  | ((with_reducible refine r_lenS ?hc ?_); (case hc => first | exact small (by omega) | exact small (by simp; omega)))
  | ((with_reducible refine' r_lenL ?hc ?_); (case hc => first | assumption | exact Evl.sq_of (by assumption)))
  | ((with_reducible refine' r_lenT ?hc ?_); (case hc => first | assumption | exact Evl.st_of (by assumption)))
  | ((with_reducible refine' r_ixL ?h1 ?h2 ?h3 ?_); (case h1 => first | assumption | exact Evl.sq_of (by assumption) | exact Evl.sq_of upd_same); (case h2 => first | decide | omega); (case h3 => first | exact rfl | assumption))
  | ((with_reducible refine' r_ixT ?h1 ?h2 ?h3 ?_); (case h1 => first | assumption | exact Evl.st_of (by assumption)); (case h2 => first | decide | omega); (case h3 => first | exact rfl | assumption))
  | with_reducible refine r_T ?_
  | with_reducible refine r_notNn ?_
  | with_reducible refine r_notN_int ?_
  | with_reducible refine r_notN_str ?_
  | with_reducible refine r_notN_ref ?_
  | with_reducible refine r_isNn ?_
  | with_reducible refine r_isN_int ?_
  | with_reducible refine r_isN_str ?_
  | with_reducible refine r_isN_ref ?_
  | ((with_reducible refine' r_isi ?ht ?hk ?_); (case ht => first | exact .base (.int _) | exact .base (.bl _) | exact .base (.str _) | exact .base .non | exact .base (.lst (by assumption)) | exact .base (.tup (by assumption))); (case hk => first | exact kb_int_int | exact kb_int_bool | exact kb_int_str | exact kb_int_list | exact kb_int_tuple | exact kb_bool_int | exact kb_bool_bool | exact kb_bool_str | exact kb_bool_list | exact kb_bool_tuple | exact kb_str_int | exact kb_str_bool | exact kb_str_str | exact kb_str_list | exact kb_str_tuple | exact kb_NoneType_int | exact kb_NoneType_bool | exact kb_NoneType_str | exact kb_NoneType_list | exact kb_NoneType_tuple | exact kb_list_int | exact kb_list_bool | exact kb_list_str | exact kb_list_list | exact kb_list_tuple | exact kb_tuple_int | exact kb_tuple_bool | exact kb_tuple_str | exact kb_tuple_list | exact kb_tuple_tuple))
  | with_reducible refine r_F ?_
  | with_reducible refine r_nT ?_
  | with_reducible refine r_nF ?_
  | with_reducible refine r_mko ?_
  | with_reducible refine r_xf ?_
  | ((with_reducible refine' r_sum ?hc ?_); (case hc => first | assumption | exact Evl.sq_of (by assumption)))
  | ((with_reducible refine' r_setL ?h1 ?h2 ?h3 ?_); (case h1 => first | assumption | exact upd_same); (case h2 => first | decide | omega); (case h3 => first | (show _ < _; decide) | (simp; done)))
  | with_reducible refine r_int ?_
  | with_reducible refine r_abs ?_)
local macro_rules | `(tactic| walk_at "rd") => `(tactic| repeat (walk_at "rd1"))

section
variable {P : Program} {w : World} {K : PySem.W.Frag} {mg : Str → Option Value} {base : Heap}
/-! ### how great the numbers can be -/
def prodN : List Nat → Nat
  | [] => 1
  | a :: l => a * prodN l
theorem prodN_app : ∀ a b : List Nat, prodN (a ++ b) = prodN a * prodN b
  | [], b => (Nat.one_mul _).symm
  | x :: a, b => by
    show x * prodN (a ++ b) = x * prodN a * prodN b
    rw [prodN_app a b, Nat.mul_assoc]
def fsts (ps : List Pr) : List Nat := ps.map (·.1)
theorem many_le (ps : List Pr) (h : ∀ q ∈ ps, q.1 ≠ 0) : many ps ≤ prodN (fsts ps) := by
  have key : ∀ (ps : List Pr) (a : Nat), 1 ≤ a → (∀ q ∈ ps, q.1 ≠ 0) → ps.foldl (fun a p => Nat.lcm a p.1) a ≤ a * prodN (fsts ps) := by
    intro ps
    induction ps with
    | nil => intro a _ _; exact Nat.le_of_eq (Nat.mul_one a).symm
    | cons q ps ih =>
      intro a ha hq
      have q1 := Nat.pos_of_ne_zero (hq q (by simp))
      refine Nat.le_trans (ih (Nat.lcm a q.1) (Nat.lcm_pos ha q1) fun p hp => hq p (by simp [hp])) ?_
      show Nat.lcm a q.1 * prodN (fsts ps) ≤ a * (q.1 * prodN (fsts ps))
      rw [← Nat.mul_assoc]
      exact Nat.mul_le_mul_right _ (Nat.le_of_dvd (Nat.mul_pos ha q1) (Nat.lcm_dvd_mul _ _))
  have := key ps 1 (Nat.le_refl _) h
  rw [Nat.one_mul] at this
  exact this
def fw (f : Frm) : Nat := f.1 * prodN (fsts f.2.1) * max 1 f.2.2.1
def wt (m : Mst) : Nat := prodN (m.stk.map fw) * prodN (fsts m.ps) * max 1 m.p.1
def cnt (m : Mst) : Nat := m.ps.length + (m.stk.map fun f => f.2.1.length).sum
structure Good (L : Nat) (m : Mst) : Prop where
  ps : ∀ q ∈ m.ps, OkP q ∧ q.1 ≠ 0
  p : OkP m.p
  stk : ∀ f ∈ m.stk, 1 ≤ f.1 ∧ f.1 ≤ 24 ∧ OkP f.2.2 ∧ ∀ q ∈ f.2.1, OkP q ∧ q.1 ≠ 0
  wt : wt m * 32 ^ m.s.length ≤ 32 ^ L
  cnt : cnt m + m.s.length ≤ L
  deep : m.stk.length ≤ 6
theorem step_le {w w' n n' L : Nat} (h : w * 32 ^ n ≤ 32 ^ L) (hw : w' ≤ w * 32) (hn : n' + 1 ≤ n) : w' * 32 ^ n' ≤ 32 ^ L := by
  refine Nat.le_trans (Nat.mul_le_mul_right _ hw) (Nat.le_trans ?_ h)
  rw [Nat.mul_assoc, Nat.mul_comm 32, ← Nat.pow_succ]
  exact Nat.mul_le_mul_left _ (Nat.pow_le_pow_right (by decide) hn)
theorem max_one {a : Nat} (h : a ≠ 0) : max 1 a = a := by omega
theorem ok0 : OkP (0, []) := ⟨fun _ => rfl, fun h => absurd h (by show ¬ 24 < 0; decide)⟩
theorem good_and {L : Nat} {stk : List Frm} {ps : List Pr} {p : Pr} {fl : Bool} {c : Nat} {r : List Nat} (g : Good L ⟨stk, ps, p, fl, c :: r⟩) (hp : p.1 ≠ 0) : Good L ⟨stk, ps ++ [p], (0, []), false, r⟩ where
  ps := fun q hq => by
    rcases List.mem_append.mp hq with z | z
    · exact g.ps q z
    · have : q = p := by simpa using z
      rw [this]; exact ⟨g.p, hp⟩
  p := ok0
  stk := g.stk
  wt := step_le g.wt (by
    show prodN (stk.map fw) * prodN (fsts (ps ++ [p])) * 1 ≤ prodN (stk.map fw) * prodN (fsts ps) * max 1 p.1 * 32
    have e : prodN (fsts (ps ++ [p])) = prodN (fsts ps) * p.1 := by
      unfold fsts
      rw [List.map_append, prodN_app]
      show prodN (ps.map (·.1)) * (p.1 * 1) = _
      rw [Nat.mul_one]
    rw [e, max_one hp, Nat.mul_one, ← Nat.mul_assoc]
    exact Nat.le_mul_of_pos_right _ (by decide)) (Nat.le_refl _)
  cnt := by
    have h := g.cnt
    have h' : ps.length + (stk.map fun f => f.2.1.length).sum + (r.length + 1) ≤ L := h
    show (ps ++ [p]).length + (stk.map fun f => f.2.1.length).sum + r.length ≤ L
    rw [List.length_append]
    show ps.length + 1 + _ + _ ≤ L
    omega
  deep := g.deep
theorem good_close {L : Nat} {t : Nat} {ps0 : List Pr} {p0 : Pr} {k : List Frm} {ps : List Pr} {p : Pr} {fl : Bool} {c : Nat} {r : List Nat} (g : Good L ⟨(t, ps0, p0) :: k, ps, p, fl, c :: r⟩) (hp : p.1 ≠ 0) : Good L ⟨k, ps0, behind p0 (often t (togL (ps ++ [p]))), false, r⟩ := by
  obtain ⟨t1, t24, o0, h0⟩ := g.stk _ (List.mem_cons_self ..)
  have allok : ∀ q ∈ ps ++ [p], q.1 ≠ 0 := fun q hq => by
    rcases List.mem_append.mp hq with z | z
    · exact (g.ps q z).2
    · have : q = p := by simpa using z
      rw [this]; exact hp
  have ml := many_le (ps ++ [p]) allok
  have m1 := many_pos (ps ++ [p]) allok
  have e : prodN (fsts (ps ++ [p])) = prodN (fsts ps) * p.1 := by
    unfold fsts
    rw [List.map_append, prodN_app]
    show prodN (ps.map (·.1)) * (p.1 * 1) = _
    rw [Nat.mul_one]
  rw [e] at ml
  refine ⟨h0, okP_behind o0 (okP_often t1 (okP_tog _)), fun f hf => g.stk f (List.mem_cons_of_mem _ hf), step_le g.wt ?_ (Nat.le_refl _), ?_, ?_⟩
  · show prodN (k.map fw) * prodN (fsts ps0) * max 1 (p0.1 + t * many (ps ++ [p])) ≤ t * prodN (fsts ps0) * max 1 p0.1 * prodN (k.map fw) * prodN (fsts ps) * max 1 p.1 * 32
    rw [max_one hp]
    generalize prodN (k.map fw) = A
    generalize prodN (fsts ps0) = B
    generalize prodN (fsts ps) = C at ml ⊢
    generalize many (ps ++ [p]) = M at ml m1 ⊢
    have tm : t * M ≤ t * (C * p.1) := Nat.mul_le_mul_left _ ml
    have tm1 : 1 ≤ t * M := Nat.mul_pos t1 m1
    have x1 : max 1 (p0.1 + t * M) ≤ max 1 p0.1 * (t * (C * p.1)) * 32 := by
      have y1 : p0.1 ≤ max 1 p0.1 * (t * (C * p.1)) := Nat.le_trans (Nat.le_max_right 1 _) (Nat.le_mul_of_pos_right _ (by omega))
      have y2 : t * M ≤ max 1 p0.1 * (t * (C * p.1)) := Nat.le_trans tm (Nat.le_mul_of_pos_left _ (by omega))
      omega
    refine Nat.le_trans (Nat.mul_le_mul_left _ x1) (Nat.le_of_eq ?_)
    generalize max 1 p0.1 = D
    generalize p.1 = E
    ac_rfl
  · have h := g.cnt
    have h' : ps.length + (ps0.length + (k.map fun f => f.2.1.length).sum) + (r.length + 1) ≤ L := h
    show ps0.length + (k.map fun f => f.2.1.length).sum + r.length ≤ L
    omega
  · have h := g.deep
    have h' : k.length + 1 ≤ 6 := h
    show k.length ≤ 6
    omega
theorem good_part {L : Nat} {stk : List Frm} {ps : List Pr} {p q : Pr} {fl fl' : Bool} {s s' : List Nat} (g : Good L ⟨stk, ps, p, fl, s⟩) (oq : OkP q) (hq : q.1 ≤ p.1 + 24) (hs : s'.length + 1 ≤ s.length) : Good L ⟨stk, ps, q, fl', s'⟩ where
  ps := g.ps
  p := oq
  stk := g.stk
  wt := step_le g.wt (by
    show prodN (stk.map fw) * prodN (fsts ps) * max 1 q.1 ≤ prodN (stk.map fw) * prodN (fsts ps) * max 1 p.1 * 32
    rw [Nat.mul_assoc _ (max 1 p.1)]
    refine Nat.mul_le_mul_left _ ?_
    omega) hs
  cnt := by
    have h := g.cnt
    have h' : ps.length + (stk.map fun f => f.2.1.length).sum + s.length ≤ L := h
    show ps.length + (stk.map fun f => f.2.1.length).sum + s'.length ≤ L
    omega
  deep := g.deep
theorem good_open {L : Nat} {stk : List Frm} {ps : List Pr} {p : Pr} {fl : Bool} {t : Nat} {s s' : List Nat} (g : Good L ⟨stk, ps, p, fl, s⟩) (t1 : 1 ≤ t) (t24 : t ≤ 24) (hk : stk.length ≠ 6) (hs : s'.length + 1 ≤ s.length) : Good L ⟨(t, ps, p) :: stk, [], (0, []), false, s'⟩ where
  ps := fun q hq => nomatch hq
  p := ok0
  stk := fun f hf => by
    rcases List.mem_cons.mp hf with z | z
    · rw [z]; exact ⟨t1, t24, g.p, g.ps⟩
    · exact g.stk f z
  wt := step_le g.wt (by
    show t * prodN (fsts ps) * max 1 p.1 * prodN (stk.map fw) * 1 * 1 ≤ prodN (stk.map fw) * prodN (fsts ps) * max 1 p.1 * 32
    generalize prodN (fsts ps) = B
    generalize max 1 p.1 = M
    generalize prodN (stk.map fw) = A
    have e : t * B * M * A * 1 * 1 = A * B * M * t := by rw [Nat.mul_one, Nat.mul_one]; ac_rfl
    rw [e]
    exact Nat.mul_le_mul_left _ (by omega)) hs
  cnt := by
    have h := g.cnt
    have h' : ps.length + (stk.map fun f => f.2.1.length).sum + s.length ≤ L := h
    show 0 + (ps.length + (stk.map fun f => f.2.1.length).sum) + s'.length ≤ L
    omega
  deep := by
    have h := g.deep
    have h' : stk.length ≤ 6 := h
    show stk.length + 1 ≤ 6
    omega
theorem good_big {L : Nat} (hL : L ≤ 1400) {stk : List Frm} {ps : List Pr} {p : Pr} {fl : Bool} {s : List Nat} (g : Good L ⟨stk, ps, p, fl, s⟩) (hp : p.1 ≠ 0) : many (ps ++ [p]) < 2 ^ 8500 := by
  have allok : ∀ q ∈ ps ++ [p], q.1 ≠ 0 := fun q hq => by
    rcases List.mem_append.mp hq with z | z
    · exact (g.ps q z).2
    · have : q = p := by simpa using z
      rw [this]; exact hp
  have ml := many_le (ps ++ [p]) allok
  have e : prodN (fsts (ps ++ [p])) = prodN (fsts ps) * p.1 := by
    unfold fsts
    rw [List.map_append, prodN_app]
    show prodN (ps.map (·.1)) * (p.1 * 1) = _
    rw [Nat.mul_one]
  rw [e] at ml
  have fpos : 1 ≤ prodN (stk.map fw) := by
    have key : ∀ k : List Frm, (∀ f ∈ k, 1 ≤ f.1 ∧ f.1 ≤ 24 ∧ OkP f.2.2 ∧ ∀ q ∈ f.2.1, OkP q ∧ q.1 ≠ 0) → 1 ≤ prodN (k.map fw) := by
      intro k
      induction k with
      | nil => intro _; exact Nat.le_refl _
      | cons f k ih =>
        intro h
        obtain ⟨f1, _, _, f4⟩ := h f (by simp)
        have m2 := Nat.le_trans (many_pos f.2.1 fun q hq => (f4 q hq).2) (many_le f.2.1 fun q hq => (f4 q hq).2)
        refine Nat.mul_pos ?_ (ih fun x hx => h x (by simp [hx]))
        exact Nat.mul_pos (Nat.mul_pos f1 m2) (by omega)
    exact key stk g.stk
  have w1 : prodN (fsts ps) * p.1 ≤ wt ⟨stk, ps, p, fl, s⟩ := by
    show _ ≤ prodN (stk.map fw) * prodN (fsts ps) * max 1 p.1
    rw [max_one hp, Nat.mul_assoc]
    exact Nat.le_mul_of_pos_left _ fpos
  have w2 : wt ⟨stk, ps, p, fl, s⟩ ≤ 32 ^ L := Nat.le_trans (Nat.le_mul_of_pos_right _ (Nat.pow_pos (by decide))) g.wt
  have w3 : 32 ^ L ≤ 2 ^ 7000 := by
    rw [show (32 : Nat) = 2 ^ 5 from rfl, ← Nat.pow_mul]
    exact Nat.pow_le_pow_right (by decide) (by omega)
  exact Nat.lt_of_le_of_lt (Nat.le_trans (Nat.le_trans ml w1) (Nat.le_trans w2 w3)) (Nat.pow_lt_pow_right (by decide) (by decide))
theorem run_inv {m : Mst} {o : Out} (h : Run m o) (hs : m.s ≠ []) : (∃ e, step m = .error e ∧ o = .bad e) ∨ ∃ m', step m = .ok m' ∧ Run m' o := by
  cases h with
  | fin h => exact absurd h hs
  | bad _ hs => exact .inl ⟨_, hs, rfl⟩
  | go _ hs r => exact .inr ⟨_, hs, r⟩
theorem run_bad {m : Mst} {o : Out} {e : Nat} (h : Run m o) (hs : m.s ≠ []) (he : step m = .error e) : o = .bad e := by
  rcases run_inv h hs with ⟨e', h1, h2⟩ | ⟨m', h1, _⟩
  · rw [he] at h1; cases h1; exact h2
  · rw [he] at h1; cases h1
theorem run_go {m m' : Mst} {o : Out} (h : Run m o) (hs : m.s ≠ []) (he : step m = .ok m') : Run m' o := by
  rcases run_inv h hs with ⟨e', h1, h2⟩ | ⟨m2, h1, h2⟩
  · rw [he] at h1; cases h1
  · rw [he] at h1; cases h1; exact h2
theorem run_fin {m : Mst} {o : Out} (h : Run m o) (hs : m.s = []) : o = final m := by
  cases h with
  | fin _ => rfl
  | bad h _ => exact absurd hs h
  | go h _ _ => exact absurd hs h
theorem step_close {stk : List Frm} {ps : List Pr} {p : Pr} {fl : Bool} {c : Nat} {r : List Nat} (hc : c = 38 ∨ c = 41) : step ⟨stk, ps, p, fl, c :: r⟩ = match closeM stk ps p c with
    | none => .error (r.length + 1)
    | some x => .ok ⟨x.1, x.2.1, x.2.2, false, r⟩ := by
  unfold Rt.step
  refine (if_pos hc).trans ?_
  by_cases h1 : p.1 = 0 ∨ (c = 41 ∧ stk = [])
  · have e : closeM stk ps p c = none := if_pos h1
    rw [e]
    exact if_pos h1
  · by_cases h2 : c = 38
    · have e : closeM stk ps p c = some (stk, ps ++ [p], (0, [])) := (if_neg h1).trans (if_pos h2)
      rw [e]
      exact (if_neg h1).trans (if_pos h2)
    · cases stk with
      | nil =>
        have e : closeM [] ps p c = none := (if_neg h1).trans (if_neg h2)
        rw [e]
        exact (if_neg h1).trans (if_neg h2)
      | cons f k =>
        obtain ⟨t, ps0, p0⟩ := f
        have e : closeM ((t, ps0, p0) :: k) ps p c = some (k, ps0, behind p0 (often t (togL (ps ++ [p])))) := (if_neg h1).trans (if_neg h2)
        rw [e]
        exact (if_neg h1).trans (if_neg h2)
theorem good_closeM {L : Nat} {stk k' : List Frm} {ps ps' : List Pr} {p p' : Pr} {fl : Bool} {c : Nat} {r : List Nat} (g : Good L ⟨stk, ps, p, fl, c :: r⟩) (h : closeM stk ps p c = some (k', ps', p')) : Good L ⟨k', ps', p', false, r⟩ := by
  unfold closeM at h
  by_cases h1 : p.1 = 0 ∨ (c = 41 ∧ stk = [])
  · rw [if_pos h1] at h; cases h
  · rw [if_neg h1] at h
    have hp : p.1 ≠ 0 := fun z => h1 (.inl z)
    by_cases h2 : c = 38
    · rw [if_pos h2] at h
      cases h
      exact good_and g hp
    · rw [if_neg h2] at h
      cases stk with
      | nil => cases h
      | cons f k =>
        obtain ⟨t, ps0, p0⟩ := f
        cases h
        exact good_close g hp
theorem okP_fill {p q : Pr} {run : List Nat} (op : OkP p) (h : fill p run = some q) : OkP q ∧ q.1 ≤ 24 := by
  cases run with
  | nil => cases h
  | cons d ds =>
    have ef : fill p (d :: ds) = if d = 48 then none else if 2 < (d :: ds).length ∨ 24 < dval (d :: ds) ∨ dval (d :: ds) < p.1 then none else some (dval (d :: ds), p.2 ++ List.replicate (dval (d :: ds) - p.1) 46) := rfl
    rw [ef] at h
    by_cases h1 : d = 48
    · rw [if_pos h1] at h; cases h
    · rw [if_neg h1] at h
      by_cases h2 : 2 < (d :: ds).length ∨ 24 < dval (d :: ds) ∨ dval (d :: ds) < p.1
      · rw [if_pos h2] at h; cases h
      · rw [if_neg h2] at h
        cases h
        have e1 : dval (d :: ds) ≤ 24 := by omega
        refine ⟨⟨fun _ => ?_, fun z => absurd z (by show ¬ 24 < dval (d :: ds); omega)⟩, e1⟩
        show (p.2 ++ List.replicate (dval (d :: ds) - p.1) 46).length = dval (d :: ds)
        rw [List.length_append, List.length_replicate, op.row (by omega)]
        omega
theorem tms_range {run fo : List Nat} {t : Int} (h : tms run fo = some t) (h1 : t ≠ -1) : 1 ≤ t ∧ t ≤ 24 ∧ (run ≠ [] → stands fo = true) := by
  cases run with
  | nil => cases h; exact ⟨by decide, by decide, fun z => absurd rfl z⟩
  | cons d ds =>
    rw [tms_cons] at h
    by_cases h2 : d = 48
    · rw [if_pos h2] at h; cases h
    · rw [if_neg h2] at h
      by_cases h3 : stands fo = false
      · rw [if_pos h3] at h; cases h; exact absurd rfl h1
      · rw [if_neg h3] at h
        by_cases h4 : 2 < (d :: ds).length ∨ dval (d :: ds) < 2 ∨ 24 < dval (d :: ds)
        · rw [if_pos h4] at h; cases h
        · rw [if_neg h4] at h
          cases h
          exact ⟨by omega, by omega, fun _ => by cases hst : stands fo with | true => rfl | false => exact absurd hst h3⟩
abbrev wBad : List Nat := [98, 97, 100]
abbrev wLong : List Nat := [108, 111, 110, 103]
abbrev wRow : List Nat := [114, 111, 119]
def outV (l : List Nat) : Out → List V
  | .bad e => [.str (S wBad), .int ((l.length - e : Nat) : Int)]
  | .long n => [.str (S wLong), .int (n : Int)]
  | .row r => [.str (S wRow), .str (S r)]
def spRead : Sp := fun vs H Q _ => ∃ (l : List Nat), vs = [.str (S l)] ∧ l.length ≤ 1400 ∧ ∀ z H', Ex H H' → H' z = some (.tup (outV l (expect l))) → Q (.ref z) H'
def ReadW (l : List Nat) (H : Hp) (m : Nat) (σ' : L2.St) (H' : Hp) : Prop := ∃ (st : Mst) (sv pv qv : V) (i : Nat) (o7 o8 o9 o10 o11 : Option V), σ' = [some (.str (S l)), some sv, some pv, some qv, some (.bl st.fl), some (.int (i : Int)), none, o7, o8, o9, o10, o11] ∧
  Ex H H' ∧ StkAt H' sv st.stk ∧ PsAt H' pv st.ps ∧ PrAt H' qv st.p ∧ i ≤ l.length ∧ st.s = l.drop i ∧ Good l.length st ∧ Run st (expect l) ∧ m + i = l.length
abbrev s_l_read : Stmt := topS 39
abbrev N_l_read : List Str := ["_law_text", "_law_stack", "_law_parts", "_law_part", "_law_filled", "_law_spot", "_law_whole", "_law_here", "_law_after", "_law_run_here", "_law_low", "_law_times_here"]
theorem sc_l_read : FnScope ["_law_text", "_law_stack", "_law_parts", "_law_part", "_law_filled", "_law_spot", "_law_whole", "_law_here", "_law_after", "_law_run_here", "_law_low", "_law_times_here"] ["_law_text"] (defScope s_l_read) := ⟨rfl, rfl, rfl, by decide +kernel, rfl, by decide +kernel, by decide +kernel⟩
theorem can_l_read (T : Bi mg) (F : Defd K mg "_law_read" s_l_read ["_law_text"]) (C_l_behind : Can P w K mg base L2.CX0 1 "_law_behind" ["_law_one", "_law_two"] spBehind) (C_l_often : Can P w K mg base L2.CX0 1 "_law_often" ["_law_one", "_law_times_here"] spOften) (C_l_together : Can P w K mg base L2.CX0 2 "_law_together" ["_law_parts"] spTog) (C_l_run : Can P w K mg base L2.CX0 1 "_law_run" ["_law_text", "_law_spot"] spRun) (C_l_fill : Can P w K mg base L2.CX0 1 "_law_fill" ["_law_part", "_law_run_here"] spFill) (C_l_times : Can P w K mg base L2.CX0 1 "_law_times" ["_law_run_here", "_law_follow"] spTimes) (C_l_close : Can P w K mg base L2.CX0 3 "_law_close" ["_law_stack", "_law_parts", "_law_part", "_law_here"] spClose) : Can P w K mg base L2.CX0 4 "_law_read" ["_law_text"] spRead := by
  refine can0 F sc_l_read (fun vs H Q E h => ?_) (fun f cdv A outer s H vs Q E hr h => ⟨_, (pss_cons (ps_set (i := 1) sc_l_read.nd rfl (by first | exact Or.inl rfl | exact Or.inr rfl) (pe_lst pa_nil))
  (pss_cons (ps_set (i := 2) sc_l_read.nd rfl (by first | exact Or.inl rfl | exact Or.inr rfl) (pe_lst pa_nil))
  (pss_cons (ps_set (i := 3) sc_l_read.nd rfl (by first | exact Or.inl rfl | exact Or.inr rfl) (pe_tup (pa_cons pe_int (pa_cons (pe_strL [] (by decide +kernel)) pa_nil))))
  (pss_cons (ps_set (i := 4) sc_l_read.nd rfl (by first | exact Or.inl rfl | exact Or.inr rfl) pe_bl)
  (pss_cons (ps_set (i := 5) sc_l_read.nd rfl (by first | exact Or.inl rfl | exact Or.inr rfl) pe_int)
  (pss_cons (ps_while PassesOwn.never (pt_cmpR op_lt (pv 5) (pe_callB call_lenS (by rfl) T.b_len boot_len (pa_cons (pv 0) pa_nil)) (nomark _)) (pss_cons (ps_set (i := 7) sc_l_read.nd rfl (by first | exact Or.inl rfl | exact Or.inr rfl) (pe_ix ix_strS (pv 0) (pv 5) (fun _ _ => rfl)))
  (pss_one (ps_if (pt_cmpR op_inSS (pv 7) (pe_strL [38, 41] (by decide +kernel)) (by rfl)) (pss_cons (ps_set (i := 8) sc_l_read.nd rfl (by first | exact Or.inl rfl | exact Or.inr rfl) (pe_can C_l_close hr (by decide) rfl (pa_cons (pv 1) (pa_cons (pv 2) (pa_cons (pv 3) (pa_cons (pv 7) pa_nil))))))
  (pss_cons (ps_if (pt_cmpR op_isN1 (pv 8) pe_non (nomark _)) (pss_one (ps_ret (pe_tup (pa_cons (pe_strL [98, 97, 100] (by decide +kernel)) (pa_cons (pv 5) pa_nil))))) pss_nil)
  (pss_cons (ps_set (i := 1) sc_l_read.nd rfl (by first | exact Or.inl rfl | exact Or.inr rfl) (pe_ix ix_tup (pv 8) pe_int (fun _ _ => rfl)))
  (pss_cons (ps_set (i := 2) sc_l_read.nd rfl (by first | exact Or.inl rfl | exact Or.inr rfl) (pe_ix ix_tup (pv 8) pe_int (fun _ _ => rfl)))
  (pss_cons (ps_set (i := 3) sc_l_read.nd rfl (by first | exact Or.inl rfl | exact Or.inr rfl) (pe_ix ix_tup (pv 8) pe_int (fun _ _ => rfl)))
  (pss_cons (ps_set (i := 4) sc_l_read.nd rfl (by first | exact Or.inl rfl | exact Or.inr rfl) pe_bl)
  (pss_one (ps_set (i := 5) sc_l_read.nd rfl (by first | exact Or.inl rfl | exact Or.inr rfl) (pe_op op_add (pv 5) pe_int))))))))) (pss_one (ps_if (pt_cmpR op_eq (pv 7) (pe_strL [64] (by decide +kernel)) (nomark _)) (pss_cons (ps_set (i := 9) sc_l_read.nd rfl (by first | exact Or.inl rfl | exact Or.inr rfl) (pe_can C_l_run hr (by decide) rfl (pa_cons (pv 0) (pa_cons (pe_op op_add (pv 5) pe_int) pa_nil))))
  (pss_cons (ps_if (PW.pt (pw_or (pt_val (pv 4)) (pw_or1 (pt_cmpR op_eq (pe_ix ix_tup (pv 3) pe_int (fun _ _ => rfl)) pe_int (nomark _))))) (pss_one (ps_ret (pe_tup (pa_cons (pe_strL [98, 97, 100] (by decide +kernel)) (pa_cons (pv 5) pa_nil))))) pss_nil)
  (pss_cons (ps_if (PW.pt (pw_or (pt_cmpR op_eq (pv 9) (pe_strL [] (by decide +kernel)) (nomark _)) (pw_or1 (pt_cmpR op_isN1 (pe_can C_l_fill hr (by decide) rfl (pa_cons (pv 3) (pa_cons (pv 9) pa_nil))) pe_non (nomark _))))) (pss_one (ps_ret (pe_tup (pa_cons (pe_strL [98, 97, 100] (by decide +kernel)) (pa_cons (pe_op op_add (pv 5) pe_int) pa_nil))))) pss_nil)
  (pss_cons (ps_set (i := 3) sc_l_read.nd rfl (by first | exact Or.inl rfl | exact Or.inr rfl) (pe_can C_l_fill hr (by decide) rfl (pa_cons (pv 3) (pa_cons (pv 9) pa_nil))))
  (pss_cons (ps_set (i := 4) sc_l_read.nd rfl (by first | exact Or.inl rfl | exact Or.inr rfl) pe_bl)
  (pss_one (ps_set (i := 5) sc_l_read.nd rfl (by first | exact Or.inl rfl | exact Or.inr rfl) (pe_op op_add (pe_op op_add (pv 5) pe_int) (pe_callB call_lenS (by rfl) T.b_len boot_len (pa_cons (pv 9) pa_nil)))))))))) (pss_cons (ps_set (i := 9) sc_l_read.nd rfl (by first | exact Or.inl rfl | exact Or.inr rfl) (pe_can C_l_run hr (by decide) rfl (pa_cons (pv 0) (pa_cons (pv 5) pa_nil))))
  (pss_cons (ps_set (i := 10) sc_l_read.nd rfl (by first | exact Or.inl rfl | exact Or.inr rfl) (pv 5))
  (pss_cons (ps_set (i := 5) sc_l_read.nd rfl (by first | exact Or.inl rfl | exact Or.inr rfl) (pe_op op_add (pv 5) (pe_callB call_lenS (by rfl) T.b_len boot_len (pa_cons (pv 9) pa_nil))))
  (pss_cons (ps_set (i := 7) sc_l_read.nd rfl (by first | exact Or.inl rfl | exact Or.inr rfl) (pe_slice sl_strS (pv 0) (po_some (pv 5)) (po_some (pe_op op_add (pv 5) pe_int))))
  (pss_cons (ps_set (i := 11) sc_l_read.nd rfl (by first | exact Or.inl rfl | exact Or.inr rfl) (pe_can C_l_times hr (by decide) rfl (pa_cons (pv 9) (pa_cons (pv 7) pa_nil))))
  (pss_cons (ps_if (PW.pt (pw_or (pt_val (pv 4)) (pw_or1 (pt_cmpR op_isN1 (pv 11) pe_non (nomark _))))) (pss_one (ps_ret (pe_tup (pa_cons (pe_strL [98, 97, 100] (by decide +kernel)) (pa_cons (pv 10) pa_nil))))) pss_nil)
  (pss_cons (ps_if (PW.pt (pw_or (pt_cmpR op_eq (pv 11) (pe_un un_neg pe_int) (nomark _)) (pw_or (pt_cmpR op_niS (pv 7) (pe_strL [46, 103, 114, 119, 40] (by decide +kernel)) (by rfl)) (pw_or1 (PW.pt (pw_and (pt_cmpR op_eq (pv 7) (pe_strL [40] (by decide +kernel)) (nomark _)) (pw_and1 (PW.pt (pw_or (pt_cmpR op_eq (pv 9) (pe_strL [] (by decide +kernel)) (nomark _)) (pw_or1 (pt_cmpR op_eq (pe_callB call_lenQ (by rfl) T.b_len boot_len (pa_cons (pv 1) pa_nil)) pe_int (nomark _)))))))))))) (pss_one (ps_ret (pe_tup (pa_cons (pe_strL [98, 97, 100] (by decide +kernel)) (pa_cons (pv 5) pa_nil))))) pss_nil)
  (pss_cons (ps_set (i := 5) sc_l_read.nd rfl (by first | exact Or.inl rfl | exact Or.inr rfl) (pe_op op_add (pv 5) pe_int))
  (pss_one (ps_if (pt_cmpR op_eq (pv 7) (pe_strL [40] (by decide +kernel)) (nomark _)) (pss_cons (ps_set (i := 1) sc_l_read.nd rfl (by first | exact Or.inl rfl | exact Or.inr rfl) (pe_op op_cat (pv 1) (pe_lst (pa_cons (pe_tup (pa_cons (pv 11) (pa_cons (pv 2) (pa_cons (pv 3) pa_nil)))) pa_nil))))
  (pss_cons (ps_set (i := 2) sc_l_read.nd rfl (by first | exact Or.inl rfl | exact Or.inr rfl) (pe_lst pa_nil))
  (pss_one (ps_set (i := 3) sc_l_read.nd rfl (by first | exact Or.inl rfl | exact Or.inr rfl) (pe_tup (pa_cons pe_int (pa_cons (pe_strL [] (by decide +kernel)) pa_nil))))))) (pss_one (ps_set (i := 3) sc_l_read.nd rfl (by first | exact Or.inl rfl | exact Or.inr rfl) (pe_can C_l_behind hr (by decide) rfl (pa_cons (pv 3) (pa_cons (pe_can C_l_often hr (by decide) rfl (pa_cons (pe_tup (pa_cons pe_int (pa_cons (pv 7) pa_nil))) (pa_cons (pv 11) pa_nil))) pa_nil)))))))))))))))))))))
  (pss_cons (ps_if (PW.pt (pw_or (pt_cmpR op_eq (pe_ix ix_tup (pv 3) pe_int (fun _ _ => rfl)) pe_int (nomark _)) (pw_or1 (pt_truth (pv 1) (fun _ => rfl))))) (pss_one (ps_ret (pe_tup (pa_cons (pe_strL [98, 97, 100] (by decide +kernel)) (pa_cons (pe_callB call_lenS (by rfl) T.b_len boot_len (pa_cons (pv 0) pa_nil)) pa_nil))))) pss_nil)
  (pss_cons (ps_set (i := 6) sc_l_read.nd rfl (by first | exact Or.inl rfl | exact Or.inr rfl) (pe_can C_l_together hr (by decide) rfl (pa_cons (pe_op op_cat (pv 2) (pe_lst (pa_cons (pv 3) pa_nil))) pa_nil)))
  (pss_cons (ps_if (pt_cmpR op_gt (pe_ix ix_tup (pv 6) pe_int (fun _ _ => rfl)) pe_int (nomark _)) (pss_one (ps_ret (pe_tup (pa_cons (pe_strL [108, 111, 110, 103] (by decide +kernel)) (pa_cons (pe_ix ix_tup (pv 6) pe_int (fun _ _ => rfl)) pa_nil))))) pss_nil)
  (pss_one (ps_ret (pe_tup (pa_cons (pe_strL [114, 111, 119] (by decide +kernel)) (pa_cons (pe_ix ix_tup (pv 6) pe_int (fun _ _ => rfl)) pa_nil)))))))))))))), ?_⟩)
  · obtain ⟨_, rfl, _⟩ := h
    rfl
  · obtain ⟨l, rfl, hl, q⟩ := h
    walk_at "rd"
    refine ⟨small (by show 0 ≤ 1000000; decide), fun z1 hz1 => ?_⟩
    have ex1 := Evl.Ex.new (o := .lst []) hz1
    have g1 : (upd H z1 (.lst [])) z1 = some (.lst []) := upd_same
    generalize upd H z1 (.lst []) = H1 at ex1 g1 ⊢
    walk_at "rd"
    refine ⟨small (by show 0 ≤ 1000000; decide), fun z2 hz2 => ?_⟩
    have ex2 := Evl.Ex.new (o := .lst []) hz2
    have g2 : (upd H1 z2 (.lst [])) z2 = some (.lst []) := upd_same
    generalize upd H1 z2 (.lst []) = H2 at ex2 g2 ⊢
    walk_at "rd"
    refine ⟨small (by show 2 ≤ 1000000; decide), fun z3 hz3 => ?_⟩
    have ex3 := Evl.Ex.new (o := .tup [.int 0, .str (S [])]) hz3
    have g3 : (upd H2 z3 (.tup [.int 0, .str (S [])])) z3 = some (.tup [.int 0, .str (S [])]) := upd_same
    generalize upd H2 z3 (.tup [.int 0, .str (S [])]) = H3 at ex3 g3 ⊢
    have nil2 : ∀ {α : Type} {R : V → α → Prop}, All2 R [] [] := fun {α R} => ⟨rfl, by show 0 ≤ 2100; decide, fun k v x h => by cases h⟩
    have good0 : Good l.length ⟨[], [], (0, []), false, l⟩ := ⟨fun q hq => (nomatch hq), ok0, fun f hf => (nomatch hf), by show 1 * 1 * 1 * 32 ^ l.length ≤ _; rw [show 1 * 1 * 1 * 32 ^ l.length = 32 ^ l.length by omega]; exact Nat.le_refl _, by show 0 + 0 + l.length ≤ l.length; omega, by show 0 ≤ 6; decide⟩
    walk_at "rd"
    refine ⟨ReadW l H, ⟨l.length, ⟨[], [], (0, []), false, l⟩, .ref z1, .ref z2, .ref z3, 0, _, _, _, _, _, rfl, (ex1.trans ex2).trans ex3, ⟨z1, [], rfl, ex3 _ _ (ex2 _ _ g1), nil2⟩, ⟨z2, [], rfl, ex3 _ _ g2, nil2⟩, ⟨z3, rfl, g3⟩, Nat.zero_le _, rfl, good0, reads l, rfl⟩, fun m σ' H' hW => ?_⟩
    obtain ⟨⟨stk, ps, p, fl, s⟩, sv, pv, qv, i, o7, o8, o9, o10, o11, rfl, ex, hsv, hpv, hqv, hi, hs, g, hrun, hm⟩ := hW
    have hs' : s = l.drop i := hs
    subst hs'
    have hsv : StkAt H' sv stk := hsv
    have hpv : PsAt H' pv ps := hpv
    have hqv : PrAt H' qv p := hqv
    have g : Good l.length ⟨stk, ps, p, fl, l.drop i⟩ := g
    clear ex1 ex2 ex3 g1 g2 g3 good0 nil2 hs
    walk_at "rd"
    refine r_ite (fun hlt => ?_) (fun hlt => ?_)
    · have hlt' : i < l.length := by omega
      have hd : l.drop i = l[i] :: l.drop (i + 1) := List.drop_eq_getElem_cons hlt'
      obtain ⟨c, hc⟩ : ∃ c, c = l[i] := ⟨_, rfl⟩
      have g0 : l[(i : Int).toNat]? = some c := by rw [Int.toNat_natCast, List.getElem?_eq_getElem hlt', hc]
      rw [← hc] at hd
      clear hc
      have hrl : (l.drop (i + 1)).length = l.length - (i + 1) := List.length_drop
      have hdl : (l.drop i).length = l.length - i := List.length_drop
      have hrun' := hrun
      have g' := g
      rw [hd] at hrun' g'
      have ne : (⟨stk, ps, p, fl, c :: l.drop (i + 1)⟩ : Mst).s ≠ [] := fun z => nomatch z
      have badOut : ∀ (e : Nat) (pos : Int), Rt.step ⟨stk, ps, p, fl, c :: l.drop (i + 1)⟩ = .error e → pos = ((l.length - e : Nat) : Int) → ∀ z H2, Ex H' H2 → H2 z = some (.tup [.str (S wBad), .int pos]) → Q (.ref z) H2 := by
        intro e pos he hpos z H2 ex2 hz
        refine q z H2 (ex.trans ex2) ?_
        rw [run_bad hrun' ne he, hz, hpos]
        rfl
      have cntb : ps.length ≤ 1400 := by
        have h := g.cnt
        have h' : ps.length + (stk.map fun f => f.2.1.length).sum + (l.drop i).length ≤ l.length := h
        omega
      refine ⟨fun σ2 H2 => ∃ m', m' < m ∧ ReadW l H m' σ2 H2, fun σ2 H2 z => z, ?_⟩
      walk_at "rd"
      refine r_ixSS (small (by omega)) (by omega) g0 ?_
      walk_at "rd"
      refine r_ite (fun hin => ?_) (fun hin => ?_)
      · have hc : c = 38 ∨ c = 41 := by simpa using hin
        have es := step_close (stk := stk) (ps := ps) (p := p) (fl := fl) (r := l.drop (i + 1)) hc
        walk_at "rd"
        refine ⟨sv, pv, qv, stk, ps, p, c, rfl, hsv, hpv, hqv, hc, by omega, g.ps, g.p, good_big hl g, fun f hf => ⟨(g.stk f hf).1, (g.stk f hf).2.1, (g.stk f hf).2.2.1⟩, fun hn H1 ex1 => ?_, fun k' ps' p' hsome z H1 a b e ex1 hz hk hp' hq' => ?_⟩
        · rw [hn] at es
          walk_at "rd"
          refine ⟨small (by show 2 ≤ 1000000; decide), fun z hz => ?_⟩
          exact badOut _ _ es (by omega) z _ (ex1.trans (Evl.Ex.new hz)) upd_same
        · rw [hsome] at es
          walk_at "rd"
          exact ⟨m - 1, by omega, ⟨k', ps', p', false, l.drop (i + 1)⟩, a, b, e, i + 1, _, _, _, _, _, by rw [Int.natCast_add]; rfl, ex.trans ex1, hk, hp', hq', by omega, rfl, good_closeM g' hsome, run_go hrun' ne es, by omega⟩
      have n38 : c ≠ 38 := fun z => hin (by rw [z]; decide)
      have n41 : c ≠ 41 := fun z => hin (by rw [z]; decide)
      obtain ⟨qa, rfl, hq⟩ := hqv
      walk_at "rd"
      refine r_ite (fun h64 => ?_) (fun h64 => ?_)
      · have h64' : c = 64 := by injection h64
        walk_at "rd"
        refine ⟨l, i + 1, by rw [Int.natCast_add]; rfl, by omega, by omega, ?_⟩
        have es : Rt.step ⟨stk, ps, p, fl, c :: l.drop (i + 1)⟩ = if fl = true ∨ p.1 = 0 then .error ((l.drop (i + 1)).length + 1) else match fill p (dsOf (l.drop (i + 1))) with
            | none => .error (l.drop (i + 1)).length
            | some q => .ok ⟨stk, ps, q, true, rsOf (l.drop (i + 1))⟩ := by
          unfold Rt.step
          exact (if_neg (by omega)).trans (if_pos h64')
        have hrs := len_rs (l.drop (i + 1))
        have hrd := rs_drop (l.drop (i + 1))
        have hdig := ds_dig (l.drop (i + 1))
        obtain ⟨run, hrn⟩ : ∃ run, run = dsOf (l.drop (i + 1)) := ⟨_, rfl⟩
        rw [← hrn] at es hrs hrd hdig ⊢
        cases fl with
        | true =>
          rw [if_pos (.inl rfl)] at es
          walk_at "rd"
          refine ⟨small (by show 2 ≤ 1000000; decide), fun z hz => ?_⟩
          exact badOut _ _ es (by omega) z _ (Evl.Ex.new hz) upd_same
        | false =>
          walk_at "rd"
          refine r_ite (fun h0 => ?_) (fun h0 => ?_)
          · rw [if_pos (.inr (by omega))] at es
            walk_at "rd"
            refine ⟨small (by show 2 ≤ 1000000; decide), fun z hz => ?_⟩
            exact badOut _ _ es (by omega) z _ (Evl.Ex.new hz) upd_same
          have p0 : p.1 ≠ 0 := by omega
          rw [if_neg (by rintro (z | z); cases z; exact p0 z)] at es
          walk_at "rd"
          refine r_ite (fun hr0 => ?_) (fun hr0 => ?_)
          · have hr0' : run = [] := hr0
            rw [hr0'] at es
            walk_at "rd"
            refine ⟨small (by show 2 ≤ 1000000; decide), fun z hz => ?_⟩
            exact badOut _ _ es (by omega) z _ (Evl.Ex.new hz) upd_same
          have hrne : run ≠ [] := hr0
          walk_at "rd"
          refine ⟨.ref qa, p, run, rfl, ⟨qa, rfl, hq⟩, g.p, hrne, by omega, hdig, fun hn => ?_, fun q2 hsome z1 H1 ex1 hz1 => ?_⟩
          · rw [hn] at es
            walk_at "rd"
            refine ⟨small (by show 2 ≤ 1000000; decide), fun z hz => ?_⟩
            exact badOut _ _ es (by omega) z _ (Evl.Ex.new hz) upd_same
          · rw [hsome] at es
            obtain ⟨y1, rfl, hy1⟩ := hz1
            have hq1 := ex1 _ _ hq
            walk_at "rd"
            refine ⟨.ref qa, p, run, rfl, ⟨qa, rfl, hq1⟩, g.p, hrne, by omega, hdig, fun hn => ?_, fun q3 hsome3 z2 H2 ex2 hz2 => ?_⟩
            · rw [hsome] at hn; cases hn
            rw [hsome] at hsome3
            cases hsome3
            obtain ⟨oq, q24⟩ := okP_fill g.p hsome
            have exA := ex1.trans ex2
            walk_at "rd"
            have hsuf : rsOf (l.drop (i + 1)) = l.drop (i + 1 + run.length) := by rw [hrd, List.drop_drop]
            rw [hsuf] at es hrs
            refine ⟨l.length - (i + 1 + run.length), by omega, ⟨stk, ps, q2, true, l.drop (i + 1 + run.length)⟩, sv, pv, z2, i + 1 + run.length, _, _, _, _, _, by rw [Int.natCast_add, Int.natCast_add]; rfl, ex.trans exA, hsv.ex exA, hpv.ex exA, hz2, by omega, rfl, good_part g' oq (by omega) (by rw [List.length_cons]; omega), run_go hrun' ne es, by omega⟩
      · have n64 : c ≠ 64 := fun z => h64 (by rw [z])
        have es : Rt.step ⟨stk, ps, p, fl, c :: l.drop (i + 1)⟩ = match tms (dsOf (l.drop i)) ((rsOf (l.drop i)).take 1) with
            | none => .error ((l.drop (i + 1)).length + 1)
            | some t =>
              if fl = true then .error ((l.drop (i + 1)).length + 1)
              else if t = -1 ∨ stands ((rsOf (l.drop i)).take 1) = false ∨ ((rsOf (l.drop i)).take 1 = [40] ∧ (dsOf (l.drop i) = [] ∨ stk.length = 6)) then .error (rsOf (l.drop i)).length
              else if (rsOf (l.drop i)).take 1 = [40] then .ok ⟨(t.toNat, ps, p) :: stk, [], (0, []), false, (rsOf (l.drop i)).drop 1⟩
              else .ok ⟨stk, ps, behind p (often t.toNat (1, (rsOf (l.drop i)).take 1)), false, (rsOf (l.drop i)).drop 1⟩ := by
          rw [hd]
          unfold Rt.step
          exact (if_neg (by omega)).trans (if_neg n64)
        have hrs := len_rs (l.drop i)
        have hrd := rs_drop (l.drop i)
        have hdig := ds_dig (l.drop i)
        walk_at "rd"
        refine ⟨l, i, rfl, by omega, by omega, ?_⟩
        obtain ⟨run, hrn⟩ : ∃ run, run = dsOf (l.drop i) := ⟨_, rfl⟩
        rw [← hrn] at es hrs hrd hdig ⊢
        rw [hrd, List.drop_drop] at es hrs
        clear hrd
        have hcut : cutL l (some ((i : Int) + (run.length : Int))) (some ((i : Int) + (run.length : Int) + 1)) = (l.drop (i + run.length)).take 1 := by
          rw [cut_mid (by omega) (by omega), show ((i : Int) + (run.length : Int)).toNat = i + run.length by omega, show ((i : Int) + (run.length : Int) + 1).toNat - (i + run.length) = 1 by omega]
        walk_at "rd"
        rw [hcut]
        clear hcut
        have hfl : ((l.drop (i + run.length)).take 1).length = min 1 (l.length - (i + run.length)) := by rw [List.length_take, List.length_drop]
        obtain ⟨fo, hfo⟩ : ∃ fo, fo = (l.drop (i + run.length)).take 1 := ⟨_, rfl⟩
        rw [← hfo] at es hfl ⊢
        rw [List.drop_drop] at es
        have hrl2 : (l.drop (i + run.length + 1)).length = l.length - (i + run.length + 1) := List.length_drop
        refine ⟨run, fo, rfl, by omega, by omega, hdig, fun hn => ?_, fun t hsome => ?_⟩
        · rw [hn] at es
          cases fl with
          | true =>
            walk_at "rd"
            refine ⟨small (by show 2 ≤ 1000000; decide), fun z hz => ?_⟩
            exact badOut _ _ es (by omega) z _ (Evl.Ex.new hz) upd_same
          | false =>
            walk_at "rd"
            refine ⟨small (by show 2 ≤ 1000000; decide), fun z hz => ?_⟩
            exact badOut _ _ es (by omega) z _ (Evl.Ex.new hz) upd_same
        rw [hsome] at es
        cases fl with
        | true =>
          have es := es.trans (if_pos rfl)
          walk_at "rd"
          refine ⟨small (by show 2 ≤ 1000000; decide), fun z hz => ?_⟩
          exact badOut _ _ es (by omega) z _ (Evl.Ex.new hz) upd_same
        | false =>
        have es := es.trans (if_neg (by decide))
        have hrl3 : (l.drop (i + run.length)).length = l.length - (i + run.length) := List.length_drop
        walk_at "rd"
        refine r_ite (fun ht1 => ?_) (fun ht1 => ?_)
        · have es := es.trans (if_pos (.inl ht1))
          walk_at "rd"
          refine ⟨small (by show 2 ≤ 1000000; decide), fun z hz => ?_⟩
          exact badOut _ _ es (by omega) z _ (Evl.Ex.new hz) upd_same
        obtain ⟨t1, t24, tst⟩ := tms_range hsome ht1
        obtain ⟨n, rfl⟩ : ∃ n : Nat, t = (n : Int) := ⟨t.toNat, by omega⟩
        rw [Int.toNat_natCast] at es
        obtain ⟨c2, hc2⟩ : ∃ c2, fo = [c2] := by
          cases fo with
          | nil =>
            by_cases hr0 : run = []
            · rw [hr0] at hfl
              have h' : 0 = min 1 (l.length - (i + 0)) := hfl
              omega
            · exact nomatch tst hr0
          | cons a b =>
            have h' : b.length + 1 = min 1 (l.length - (i + run.length)) := hfl
            have : b = [] := List.length_eq_zero_iff.mp (by omega)
            exact ⟨a, by rw [this]⟩
        clear hfo
        subst hc2
        have hfl' : 1 = min 1 (l.length - (i + run.length)) := hfl
        walk_at "rd"
        rw [stands_in]
        cases hst : stands [c2] with
        | false =>
          have es := es.trans (if_pos (.inr (.inl hst)))
          rw [if_pos (by decide)]
          walk_at "rd"
          refine ⟨small (by show 2 ≤ 1000000; decide), fun z hz => ?_⟩
          exact badOut _ _ es (by omega) z _ (Evl.Ex.new hz) upd_same
        | true =>
        rw [if_neg (by decide)]
        obtain ⟨sa, ss, rfl, hsa, sall⟩ := hsv
        obtain ⟨pa, vs, rfl, hpa, pall⟩ := hpv
        have hsl : ss.length = stk.length := by rw [sall.1, List.length_reverse]
        have hgd := g.deep
        have hgd : stk.length ≤ 6 := hgd
        walk_at "rd"
        refine r_ite (fun h40 => ?_) (fun h40 => ?_)
        · walk_at "rd"
          refine r_ite (fun hr0 => ?_) (fun hr0 => ?_)
          · have es := es.trans (if_pos (.inr (.inr ⟨h40, .inl hr0⟩)))
            walk_at "rd"
            refine ⟨small (by show 2 ≤ 1000000; decide), fun z hz => ?_⟩
            exact badOut _ _ es (by omega) z _ (Evl.Ex.new hz) upd_same
          walk_at "rd"
          refine r_ite (fun h6 => ?_) (fun h6 => ?_)
          · have es := es.trans (if_pos (.inr (.inr ⟨h40, .inr (by omega)⟩)))
            walk_at "rd"
            refine ⟨small (by show 2 ≤ 1000000; decide), fun z hz => ?_⟩
            exact badOut _ _ es (by omega) z _ (Evl.Ex.new hz) upd_same
          have h6' : stk.length ≠ 6 := by omega
          have es := es.trans (if_neg (by rintro (z | z | ⟨_, z | z⟩); exact ht1 z; rw [hst] at z; cases z; exact hr0 z; exact h6' z))
          have es := es.trans (if_pos h40)
          walk_at "rd"
          refine r_ite (fun _ => ?_) (fun z => absurd h40 z)
          walk_at "rd"
          refine ⟨small (by show 3 ≤ 1000000; decide), fun z1 hz1 => ?_⟩
          have ex1 := Evl.Ex.new (o := .tup [.int (n : Int), .ref pa, .ref qa]) hz1
          have g1 : (upd H' z1 (.tup [.int (n : Int), .ref pa, .ref qa])) z1 = some (.tup [.int (n : Int), .ref pa, .ref qa]) := upd_same
          generalize upd H' z1 (.tup [.int (n : Int), .ref pa, .ref qa]) = H1 at ex1 g1 ⊢
          walk_at "rd"
          refine ⟨small (by show 1 ≤ 1000000; decide), fun z2 hz2 => ?_⟩
          have ex2 := Evl.Ex.new (o := .lst [.ref z1]) hz2
          have g2 : (upd H1 z2 (.lst [.ref z1])) z2 = some (.lst [.ref z1]) := upd_same
          generalize upd H1 z2 (.lst [.ref z1]) = H2 at ex2 g2 ⊢
          have exA := ex1.trans ex2
          refine ⟨_, _, _, _, rfl, rfl, exA _ _ hsa, g2, by rw [sizeLine_eq]; show ss.length + 1 ≤ _; omega, fun z3 hz3 => ?_⟩
          have ex3 := Evl.Ex.new (o := .lst (ss ++ [.ref z1])) hz3
          have g3 : (upd H2 z3 (.lst (ss ++ [.ref z1]))) z3 = some (.lst (ss ++ [.ref z1])) := upd_same
          generalize upd H2 z3 (.lst (ss ++ [.ref z1])) = H3 at ex3 g3 ⊢
          walk_at "rd"
          refine ⟨small (by show 0 ≤ 1000000; decide), fun z4 hz4 => ?_⟩
          have ex4 := Evl.Ex.new (o := .lst []) hz4
          have g4 : (upd H3 z4 (.lst [])) z4 = some (.lst []) := upd_same
          generalize upd H3 z4 (.lst []) = H4 at ex4 g4 ⊢
          walk_at "rd"
          refine ⟨small (by show 2 ≤ 1000000; decide), fun z5 hz5 => ?_⟩
          have ex5 := Evl.Ex.new (o := .tup [.int 0, .str (S [])]) hz5
          have g5 : (upd H4 z5 (.tup [.int 0, .str (S [])])) z5 = some (.tup [.int 0, .str (S [])]) := upd_same
          generalize upd H4 z5 (.tup [.int 0, .str (S [])]) = H5 at ex5 g5 ⊢
          have exB := (ex2.trans ex3).trans (ex4.trans ex5)
          have exC := ex1.trans exB
          walk_at "rd"
          have hfr : FrAt H5 (.ref z1) (n, ps, p) := ⟨z1, .ref pa, .ref qa, rfl, exB _ _ g1, PsAt.ex ⟨pa, vs, rfl, hpa, pall⟩ exC, ⟨qa, rfl, exC _ _ hq⟩⟩
          have hst5 : StkAt H5 (.ref z3) ((n, ps, p) :: stk) := ⟨z3, _, rfl, (ex4.trans ex5) _ _ g3, by
            rw [List.reverse_cons]
            exact (sall.map fun v x h => h.ex exC).snoc (by omega) hfr⟩
          have nil2 : ∀ {α : Type} {R : V → α → Prop}, All2 R [] [] := fun {α R} => ⟨rfl, by show 0 ≤ 2100; decide, fun k v x h => by cases h⟩
          exact ⟨l.length - (i + run.length + 1), by omega, ⟨(n, ps, p) :: stk, [], (0, []), false, l.drop (i + run.length + 1)⟩, .ref z3, .ref z4, .ref z5, i + run.length + 1, _, _, _, _, _, by rw [Int.natCast_add, Int.natCast_add]; rfl, ex.trans exC, hst5, ⟨z4, [], rfl, ex5 _ _ g4, nil2⟩, ⟨z5, rfl, g5⟩, by omega, rfl, good_open g' (by omega) (by omega) h6' (by rw [List.length_cons]; omega), run_go hrun' ne es, by omega⟩
        · have es := es.trans (if_neg (by rintro (z | z | ⟨z, _⟩); exact ht1 z; rw [hst] at z; cases z; exact h40 z))
          have es := es.trans (if_neg h40)
          walk_at "rd"
          refine r_ite (fun z => absurd z h40) (fun _ => ?_)
          walk_at "rd"
          refine ⟨small (by show 2 ≤ 1000000; decide), fun z1 hz1 => ?_⟩
          have ex1 := Evl.Ex.new (o := .tup [.int 1, .str (S [c2])]) hz1
          have g1 : (upd H' z1 (.tup [.int 1, .str (S [c2])])) z1 = some (.tup [.int 1, .str (S [c2])]) := upd_same
          generalize upd H' z1 (.tup [.int 1, .str (S [c2])]) = H1 at ex1 g1 ⊢
          have ok1 : OkP (1, [c2]) := ⟨fun _ => rfl, fun h => absurd h (by show ¬ 24 < 1; decide)⟩
          walk_at "rd"
          refine ⟨.ref z1, n, (1, [c2]), rfl, ⟨z1, rfl, g1⟩, ok1, by omega, by omega, fun y1 H2 ex2 hy1 => ?_⟩
          walk_at "rd"
          have exA := ex1.trans ex2
          refine ⟨.ref qa, y1, p, often n (1, [c2]), rfl, ⟨qa, rfl, exA _ _ hq⟩, hy1, g.p, okP_often (by omega) ok1, fun y2 H3 ex3 hy2 => ?_⟩
          have exB := exA.trans ex3
          walk_at "rd"
          exact ⟨l.length - (i + run.length + 1), by omega, ⟨stk, ps, behind p (often n (1, [c2])), false, l.drop (i + run.length + 1)⟩, .ref sa, .ref pa, y2, i + run.length + 1, _, _, _, _, _, by rw [Int.natCast_add, Int.natCast_add]; rfl, ex.trans exB, StkAt.ex ⟨sa, ss, rfl, hsa, sall⟩ exB, PsAt.ex ⟨pa, vs, rfl, hpa, pall⟩ exB, hy2, by omega, rfl, good_part g' (okP_behind g.p (okP_often (by omega) ok1)) (by show p.1 + n * 1 ≤ p.1 + 24; omega) (by rw [List.length_cons]; omega), run_go hrun' ne es, by omega⟩
    · have hi2 : i = l.length := by omega
      subst hi2
      have hrun2 := run_fin hrun (List.drop_length ..)
      obtain ⟨qa, rfl, hq⟩ := hqv
      walk_at "rd"
      refine r_ite (fun h0 => ?_) (fun h0 => ?_)
      · have h0 : (p.1 : Int) = 0 := h0
        walk_at "rd"
        refine ⟨small (by show 2 ≤ 1000000; decide), fun z hz => ?_⟩
        refine q z _ (ex.trans (Evl.Ex.new hz)) ?_
        rw [hrun2, upd_same]
        unfold Rt.final
        rw [if_pos (.inl (by show p.1 = 0; omega))]
        rfl
      have h0 : ¬ (p.1 : Int) = 0 := h0
      have p0 : p.1 ≠ 0 := by omega
      obtain ⟨sa, ss, rfl, hsa, sall⟩ := hsv
      obtain ⟨pa, vs, rfl, hpa, pall⟩ := hpv
      walk_at "rd"
      cases stk with
      | cons fr k =>
        have hne : ss ≠ [] := fun z => by
          have e := sall.1
          rw [z, List.reverse_cons, List.length_append] at e
          have e' : 0 = k.reverse.length + 1 := e
          omega
        refine ⟨true, .inl ⟨_, Evl.sq_of hsa, ?_⟩, ?_⟩
        · cases ss with
          | nil => exact absurd rfl hne
          | cons _ _ => rfl
        walk_at "rd"
        refine ⟨small (by show 2 ≤ 1000000; decide), fun z hz => ?_⟩
        refine q z _ (ex.trans (Evl.Ex.new hz)) ?_
        rw [hrun2, upd_same]
        unfold Rt.final
        rw [if_pos (.inr (fun z => nomatch z))]
        rfl
      | nil =>
      have hss : ss = [] := List.length_eq_zero_iff.mp sall.1
      subst hss
      refine ⟨false, .inl ⟨[], Evl.sq_of hsa, rfl⟩, ?_⟩
      walk_at "rd"
      refine ⟨small (by show 1 ≤ 1000000; decide), fun G hG => ?_⟩
      have exG := Evl.Ex.new (o := .lst [.ref qa]) hG
      have gG : (upd H' G (.lst [.ref qa])) G = some (.lst [.ref qa]) := upd_same
      generalize upd H' G (.lst [.ref qa]) = H1 at exG gG ⊢
      have cntb : ps.length ≤ 1400 := by
        have h := g.cnt
        have h' : ps.length + 0 + (l.drop l.length).length ≤ l.length := h
        omega
      have hvl : vs.length = ps.length := pall.1
      refine ⟨_, _, _, _, rfl, rfl, exG _ _ hpa, gG, by rw [sizeLine_eq]; show vs.length + 1 ≤ _; omega, fun W hW => ?_⟩
      have exW := Evl.Ex.new (o := .lst (vs ++ [.ref qa])) hW
      have gW : (upd H1 W (.lst (vs ++ [.ref qa]))) W = some (.lst (vs ++ [.ref qa])) := upd_same
      generalize upd H1 W (.lst (vs ++ [.ref qa])) = H2 at exW gW ⊢
      have ex2 := exG.trans exW
      have allok : ∀ q ∈ ps ++ [p], OkP q ∧ q.1 ≠ 0 := fun q hq => by
        rcases List.mem_append.mp hq with z | z
        · exact g.ps q z
        · have : q = p := by simpa using z
          rw [this]; exact ⟨g.p, p0⟩
      walk_at "rd"
      refine ⟨.ref W, ps ++ [p], rfl, ⟨W, _, rfl, gW, (pall.map fun v x h => h.ex ex2).snoc (by omega) ⟨qa, rfl, ex2 _ _ hq⟩⟩, allok, good_big hl g p0, fun y1 H4 ex4 hy1 => ?_⟩
      obtain ⟨ya, rfl, hya⟩ := hy1
      have exA := ex.trans (ex2.trans ex4)
      have hfin : Rt.final ⟨[], ps, p, fl, l.drop l.length⟩ = if 24 < (togL (ps ++ [p])).1 then .long (togL (ps ++ [p])).1 else .row (togL (ps ++ [p])).2 := if_neg (by rintro (z | z); exact p0 z; exact z rfl)
      rw [hfin] at hrun2
      generalize togL (ps ++ [p]) = tg at hya hrun2
      walk_at "rd"
      refine r_ite (fun h24 => ?_) (fun h24 => ?_)
      · rw [if_pos (by omega)] at hrun2
        walk_at "rd"
        refine ⟨small (by show 2 ≤ 1000000; decide), fun z hz => ?_⟩
        refine q z _ (exA.trans (Evl.Ex.new hz)) ?_
        rw [hrun2, upd_same]
        rfl
      · rw [if_neg (by omega)] at hrun2
        have e : rowV tg = .str (S tg.2) := if_pos (by omega)
        rw [e] at hya
        walk_at "rd"
        refine ⟨small (by show 2 ≤ 1000000; decide), fun z hz => ?_⟩
        refine q z _ (exA.trans (Evl.Ex.new hz)) ?_
        rw [hrun2, upd_same]
        rfl

end
end Fk

set_option Elab.async false
set_option linter.all false
set_option maxRecDepth 100000
set_option maxHeartbeats 4000000
namespace Fk
open PySem PySem.Spec PyProof.Rows L2 Fg Rt
local macro_rules | `(tactic| walk_at "rd1") => `(tactic| first
  | with_reducible refine r_seq ?_
  | with_reducible refine r_asg ?_
  | with_reducible refine r_gname ?_
  | with_reducible refine r_gsub ?_
  | with_reducible refine r_ret ?_
  | with_reducible refine r_retN ?_
  | with_reducible refine r_next ?_
  | with_reducible refine r_drop ?_
  | with_reducible refine r_ifS ?_
  | with_reducible refine r_if ?_
  | with_reducible refine r_par ?_
  | with_reducible refine r_pair ?_
  | with_reducible refine r_test ?_
  | with_reducible refine r_tB ?_
  | with_reducible refine r_not ?_
  | with_reducible refine r_and ?_
  | with_reducible refine r_or ?_
  | with_reducible refine r_andV ?_
  | with_reducible refine r_orV ?_
  | with_reducible refine r_notV ?_
  | with_reducible refine r_nil ?_
  | with_reducible refine r_cons ?_
  | with_reducible refine r_call ?_
  | with_reducible refine r_callS ?_
  | with_reducible refine r_cb ?_
  | with_reducible refine r_then ?_
  | with_reducible refine r_tup ?_
  | with_reducible refine r_lst ?_
  | with_reducible refine r_sl ?_
  | with_reducible refine r_nopart ?_
  | with_reducible refine r_part ?_
  | with_reducible refine r_lcR1 ?_
  | with_reducible refine r_lcR2 ?_
  | with_reducible refine r_lcL ?_
  | with_reducible refine r_lcT ?_
  | with_reducible refine r_forR1 ?_
  | with_reducible refine r_forR2 ?_
  | with_reducible refine r_forL ?_
  | with_reducible refine r_forT ?_
  | with_reducible refine r_forE ?_
  | with_reducible refine r_strE ?_
  | ((with_reducible refine r_rng1 ?hc ?_); (case hc => omega))
  | ((with_reducible refine r_rng2 ?hc ?_); (case hc => omega))
  | ((with_reducible refine' r_refL ?hc ?_); (case hc => first | assumption | exact Evl.sq_of (by assumption)))
  | ((with_reducible refine' r_refT ?hc ?_); (case hc => first | assumption | exact Evl.st_of (by assumption)))
  | with_reducible refine r_op ?_
  | with_reducible refine r_un ?_
  | with_reducible refine r_chain ?_
  | ((with_reducible refine' r_var ?hv ?_); (case hv => exact rfl))
  | with_reducible refine r_cS ?_
  | with_reducible refine r_cs ?_
  | with_reducible refine r_c ?_
  | with_reducible refine r_yes ?_
  | with_reducible refine r_bm ?_
  | with_reducible refine r_bl ?_
  | with_reducible refine r_in ?_
  | with_reducible refine r_ty ?_
  | with_reducible refine r_I0 ?_
  | ((with_reducible refine r_I ?hc ?_); (case hc => first | assumption | (show (0 : Int) < _; decide) | exact Or.inr ⟨by decide, by decide⟩ | exact Or.inr ⟨by omega, by omega⟩ | exact Or.inl ⟨by decide, by decide⟩ | exact (show CDivW _ _ from ⟨by decide, by decide +kernel⟩) | exact (show CPowW _ _ from ⟨by decide, by decide +kernel⟩) | (show (0 : Int) < _; omega)))
  | with_reducible refine r_U ?_
  | with_reducible refine r_eqI ?_
  | with_reducible refine r_neI ?_
  | with_reducible refine r_eqS ?_
  | with_reducible refine r_neS ?_
  | with_reducible refine r_eqB ?_
  | with_reducible refine r_neB ?_
  | with_reducible refine r_niS ?_
  | with_reducible refine r_inSS ?_
  | ((with_reducible refine r_slSS ?hc ?_); (case hc => first | exact small (by omega) | exact small (by simp; omega)))
  | ((with_reducible refine r_lenS ?hc ?_); (case hc => first | exact small (by omega) | exact small (by simp; omega)))
  | ((with_reducible refine' r_lenL ?hc ?_); (case hc => first | assumption | exact Evl.sq_of (by assumption)))
  | ((with_reducible refine' r_lenT ?hc ?_); (case hc => first | assumption | exact Evl.st_of (by assumption)))
  | ((with_reducible refine' r_ixL ?h1 ?h2 ?h3 ?_); (case h1 => first | assumption | exact Evl.sq_of (by assumption) | exact Evl.sq_of upd_same); (case h2 => first | decide | omega); (case h3 => first | exact rfl | assumption))
  | ((with_reducible refine' r_ixT ?h1 ?h2 ?h3 ?_); (case h1 => first | assumption | exact Evl.st_of (by assumption)); (case h2 => first | decide | omega); (case h3 => first | exact rfl | assumption))
  | with_reducible refine r_T ?_
  | with_reducible refine r_notNn ?_
  | with_reducible refine r_notN_int ?_
  | with_reducible refine r_notN_str ?_
  | with_reducible refine r_notN_ref ?_
  | with_reducible refine r_isNn ?_
  | with_reducible refine r_isN_int ?_
  | with_reducible refine r_isN_str ?_
  | with_reducible refine r_isN_ref ?_
  | ((with_reducible refine' r_isi ?ht ?hk ?_); (case ht => first | exact .base (.int _) | exact .base (.bl _) | exact .base (.str _) | exact .base .non | exact .base (.lst (by assumption)) | exact .base (.tup (by assumption))); (case hk => first | exact kb_int_int | exact kb_int_bool | exact kb_int_str | exact kb_int_list | exact kb_int_tuple | exact kb_bool_int | exact kb_bool_bool | exact kb_bool_str | exact kb_bool_list | exact kb_bool_tuple | exact kb_str_int | exact kb_str_bool | exact kb_str_str | exact kb_str_list | exact kb_str_tuple | exact kb_NoneType_int | exact kb_NoneType_bool | exact kb_NoneType_str | exact kb_NoneType_list | exact kb_NoneType_tuple | exact kb_list_int | exact kb_list_bool | exact kb_list_str | exact kb_list_list | exact kb_list_tuple | exact kb_tuple_int | exact kb_tuple_bool | exact kb_tuple_str | exact kb_tuple_list | exact kb_tuple_tuple))
  | with_reducible refine r_F ?_
  | with_reducible refine r_nT ?_
  | with_reducible refine r_nF ?_
  | with_reducible refine r_mko ?_
  | with_reducible refine r_xf ?_
  | ((with_reducible refine' r_sum ?hc ?_); (case hc => first | assumption | exact Evl.sq_of (by assumption)))
  | ((with_reducible refine' r_setL ?h1 ?h2 ?h3 ?_); (case h1 => first | assumption | exact upd_same); (case h2 => first | decide | omega); (case h3 => first | (show _ < _; decide) | (simp; done)))
  | with_reducible refine r_int ?_
  | with_reducible refine r_abs ?_)
local macro_rules | `(tactic| walk_at "rd") => `(tactic| repeat (walk_at "rd1"))

section
variable {P : Program} {w : World} {K : PySem.W.Frag} {mg : Str → Option Value} {base : Heap}
/-! ### makers of texts: only how long they become -/
/-- all but d and t are kept -/
def Kt (d t : Addr) (H H' : Hp) : Prop := ∀ b o, b ≠ d → b ≠ t → H b = some o → H' b = some o
theorem Kt.refl (d t : Addr) (H : Hp) : Kt d t H H := fun _ _ _ _ h => h
theorem Kt.trans {d t : Addr} {H H1 H2 : Hp} (a : Kt d t H H1) (b : Kt d t H1 H2) : Kt d t H H2 := fun x o n m h => b x o n m (a x o n m h)
theorem Kt.of {d t : Addr} {H H' : Hp} (e : Ex H H') : Kt d t H H' := fun b o _ _ h => e b o h
theorem Kt.kp {d t : Addr} {H H' : Hp} (k : Kp d H H') : Kt d t H H' := fun b o n _ h => k b o n h
theorem Kt.put {d t : Addr} {H : Hp} {o : HO} : Kt d t H (L2.upd H t o) := fun b u _ n h => by rw [upd_ne n]; exact h
theorem Dr.some {ns : List Int} {c d : Addr} {H : Hp} (h : Dr ns c d H) : H d ≠ none := fun z => by
  obtain ⟨i, m, big, cnt, b, e, r⟩ := h.ex
  rw [e] at z
  cases z
theorem Dr.nd {ns : List Int} {c d D : Addr} {H : Hp} (h : Dr ns c d H) (n : H D = none) : D ≠ d := fun z => h.some (by rw [← z]; exact n)
theorem Dr.nc {ns : List Int} {c d D : Addr} {H : Hp} (h : Dr ns c d H) (n : H D = none) : D ≠ c := fun z => by
  rw [z, h.cells] at n
  cases n
theorem Dr.mut {ns : List Int} {c d D : Addr} {H : Hp} {o : HO} (h : Dr ns c d H) (nc : D ≠ c) (nd : D ≠ d) : Dr ns c d (upd H D o) := ⟨h.ne, by rw [upd_ne (Ne.symm nc)]; exact h.cells, by
  obtain ⟨i, n, big, cnt, b, e, r⟩ := h.ex
  exact ⟨i, n, big, cnt, b, by rw [upd_ne (Ne.symm nd)]; exact e, r⟩⟩
theorem pick_in {ys : List V} {p : V → Prop} (h : ∀ v ∈ ys, p v) {k : Int} (h0 : 0 ≤ k) (h1 : k < ys.length ∨ k = 0) (hn : 0 < ys.length) : ∃ v, ys[k.toNat]? = some v ∧ p v := by
  have e : k.toNat < ys.length := by omega
  exact ⟨_, List.getElem?_eq_getElem e, h _ (List.getElem_mem _)⟩
/-- a text of at most n signs -/
def IsT (n : Nat) (v : V) : Prop := ∃ l : List Nat, v = .str (S l) ∧ l.length ≤ n
/-- a number from 0 to n -/
def IsN (n : Nat) (v : V) : Prop := ∃ k : Nat, v = .int (k : Int) ∧ k ≤ n
def dg (t : Nat) : List Nat := if t < 10 then [48 + t] else [48 + t / 10, 48 + t % 10]
theorem str_dg : ∀ t : Fin 100, (toString ((t.val : Nat) : Int) : Str) = S (dg t.val) := by decide +kernel
theorem dg_len (t : Nat) : (dg t).length ≤ 2 := by unfold dg; split <;> simp
def spSign : Sp := fun vs H Q _ => ∃ (c d : Addr) (ns : List Int), vs = [.ref d] ∧ Dr ns c d H ∧ ∀ (x : Nat) H', Kp d H H' → Dr ns c d H' → Q (.str (S [x])) H'
def spNumber : Sp := fun vs H Q _ => ∃ (c d : Addr) (ns : List Int), vs = [.ref d] ∧ Dr ns c d H ∧ ∀ (l : List Nat) H', l.length ≤ 3 → Kp d H H' → Dr ns c d H' → Q (.str (S l)) H'
def spSpoilt : Sp := fun vs H Q _ => ∃ (c d : Addr) (ns : List Int) (l : List Nat), vs = [.ref d, .str (S l)] ∧ Dr ns c d H ∧ l.length ≤ 1300 ∧ ∀ (l2 : List Nat) H', l2.length ≤ l.length + 2 → Kp d H H' → Dr ns c d H' → Q (.str (S l2)) H'
def spMake : Sp := fun vs H Q _ => ∃ (c d : Addr) (ns : List Int), vs = [.ref d] ∧ Dr ns c d H ∧ ∀ (l : List Nat) H', l.length ≤ 1300 → Kp d H H' → Dr ns c d H' → Q (.str (S l)) H'
abbrev s_l_sign : Stmt := topS 30
abbrev N_l_sign : List Str := ["_law_draw_here"]
theorem sc_l_sign : FnScope ["_law_draw_here"] ["_law_draw_here"] (defScope s_l_sign) := ⟨rfl, rfl, rfl, by decide +kernel, rfl, by decide +kernel, by decide +kernel⟩
theorem can_l_sign (T : Bi mg) (F : Defd K mg "_law_sign" s_l_sign ["_law_draw_here"]) (C_l_pick : Can P w K mg base L2.CX0 2 "_law_pick" ["_law_draw_here", "_law_many"] spPick) : Can P w K mg base L2.CX0 3 "_law_sign" ["_law_draw_here"] spSign := by
  refine can0 F sc_l_sign (fun vs H Q E h => ?_) (fun f cdv A outer s H vs Q E hr h => ⟨_, (pss_one (ps_ret (pe_ix ix_strS (pe_strL [46, 46, 46, 119, 119, 114, 103] (by decide +kernel)) (pe_can C_l_pick hr (by decide) rfl (pa_cons (pv 0) (pa_cons pe_int pa_nil))) (fun _ _ => rfl)))), ?_⟩)
  · obtain ⟨_, _, _, rfl, _⟩ := h
    rfl
  · obtain ⟨c, d, ns, rfl, hD, q⟩ := h
    walk_at "rd"
    refine ⟨c, d, 7, ns, rfl, hD, by decide, fun k H' h0 h1 kp hD' => ?_⟩
    have hk : k.toNat < 7 := by omega
    exact r_ixSS (small (by decide)) h0 (List.getElem?_eq_getElem hk) (q _ H' kp hD')
abbrev s_l_number : Stmt := topS 40
abbrev N_l_number : List Str := ["_law_draw_here"]
theorem sc_l_number : FnScope ["_law_draw_here"] ["_law_draw_here"] (defScope s_l_number) := ⟨rfl, rfl, rfl, by decide +kernel, rfl, by decide +kernel, by decide +kernel⟩
theorem can_l_number (T : Bi mg) (F : Defd K mg "_law_number" s_l_number ["_law_draw_here"]) (C_l_pick : Can P w K mg base L2.CX0 2 "_law_pick" ["_law_draw_here", "_law_many"] spPick) : Can P w K mg base L2.CX0 3 "_law_number" ["_law_draw_here"] spNumber := by
  refine can0 F sc_l_number (fun vs H Q E h => ?_) (fun f cdv A outer s H vs Q E hr h => ⟨_, (pss_cons (ps_if (pt_cmpR op_eq (pe_can C_l_pick hr (by decide) rfl (pa_cons (pv 0) (pa_cons pe_int pa_nil))) pe_int (nomark _)) (pss_one (ps_ret (pe_ix ix_list (pe_lst (pa_cons (pe_strL [48] (by decide +kernel)) (pa_cons (pe_strL [49] (by decide +kernel)) (pa_cons (pe_strL [50, 53] (by decide +kernel)) (pa_cons (pe_strL [48, 50] (by decide +kernel)) (pa_cons (pe_strL [49, 48, 48] (by decide +kernel)) (pa_cons (pe_strL [48, 48] (by decide +kernel)) (pa_cons (pe_strL [50, 52] (by decide +kernel)) (pa_cons (pe_strL [50] (by decide +kernel)) pa_nil))))))))) (pe_can C_l_pick hr (by decide) rfl (pa_cons (pv 0) (pa_cons pe_int pa_nil))) (fun _ _ => rfl)))) pss_nil)
  (pss_one (ps_ret (pe_callTy call_str_int (by rfl) T.b_str boot_str (pa_cons (pe_op op_add pe_int (pe_can C_l_pick hr (by decide) rfl (pa_cons (pv 0) (pa_cons (pe_ix ix_list (pe_lst (pa_cons pe_int (pa_cons pe_int (pa_cons pe_int (pa_cons pe_int pa_nil))))) (pe_can C_l_pick hr (by decide) rfl (pa_cons (pv 0) (pa_cons pe_int pa_nil))) (fun _ _ => rfl)) pa_nil)))) pa_nil))))), ?_⟩)
  · obtain ⟨_, _, _, rfl, _⟩ := h
    rfl
  · obtain ⟨c, d, ns, rfl, hD, q⟩ := h
    walk_at "rd"
    refine ⟨c, d, 10, ns, rfl, hD, by decide, fun k H1 h0 h1 kp hD1 => ?_⟩
    walk_at "rd"
    refine r_ite (fun h9 => ?_) (fun h9 => ?_)
    · walk_at "rd"
      refine ⟨small (by show 8 ≤ 1000000; decide), fun za hza => ?_⟩
      have exa := Evl.Ex.new (o := .lst [.str (S [48]), .str (S [49]), .str (S [50, 53]), .str (S [48, 50]), .str (S [49, 48, 48]), .str (S [48, 48]), .str (S [50, 52]), .str (S [50])]) hza
      have ga : (upd H1 za (.lst [.str (S [48]), .str (S [49]), .str (S [50, 53]), .str (S [48, 50]), .str (S [49, 48, 48]), .str (S [48, 48]), .str (S [50, 52]), .str (S [50])])) za = some (.lst [.str (S [48]), .str (S [49]), .str (S [50, 53]), .str (S [48, 50]), .str (S [49, 48, 48]), .str (S [48, 48]), .str (S [50, 52]), .str (S [50])]) := upd_same
      have nda : za ≠ d := hD1.nd hza
      generalize upd H1 za (.lst [.str (S [48]), .str (S [49]), .str (S [50, 53]), .str (S [48, 50]), .str (S [49, 48, 48]), .str (S [48, 48]), .str (S [50, 52]), .str (S [50])]) = Ga at exa ga ⊢
      walk_at "rd"
      refine ⟨c, d, 8, ns, rfl, hD1.ex' exa, by decide, fun ka Ka ka0 ka1 kpa Da => ?_⟩
      have gga := kpa _ _ nda ga
      have fra := (kp).trans ((Kp.of exa).trans kpa)
      obtain ⟨_, hva, ua, rfl, lua⟩ := pick_in (fun v hv => by simp only [List.mem_cons, List.not_mem_nil, or_false] at hv; rcases hv with rfl | rfl | rfl | rfl | rfl | rfl | rfl | rfl <;> exact ⟨_, rfl, by decide⟩ : ∀ v ∈ ([.str (S [48]), .str (S [49]), .str (S [50, 53]), .str (S [48, 50]), .str (S [49, 48, 48]), .str (S [48, 48]), .str (S [50, 52]), .str (S [50])] : List V), IsT 3 v) ka0 (by simpa using ka1) (by decide)
      walk_at "rd"
      exact q _ Ka lua fra Da
    · walk_at "rd"
      refine ⟨small (by show 4 ≤ 1000000; decide), fun za hza => ?_⟩
      have exa := Evl.Ex.new (o := .lst [.int 2, .int 3, .int 8, .int 23]) hza
      have ga : (upd H1 za (.lst [.int 2, .int 3, .int 8, .int 23])) za = some (.lst [.int 2, .int 3, .int 8, .int 23]) := upd_same
      have nda : za ≠ d := hD1.nd hza
      generalize upd H1 za (.lst [.int 2, .int 3, .int 8, .int 23]) = Ga at exa ga ⊢
      walk_at "rd"
      refine ⟨c, d, 4, ns, rfl, hD1.ex' exa, by decide, fun ka Ka ka0 ka1 kpa Da => ?_⟩
      have gga := kpa _ _ nda ga
      have fra := (kp).trans ((Kp.of exa).trans kpa)
      obtain ⟨_, hva, ua, rfl, lua⟩ := pick_in (fun v hv => by simp only [List.mem_cons, List.not_mem_nil, or_false] at hv; rcases hv with rfl | rfl | rfl | rfl <;> exact ⟨_, rfl, by decide⟩ : ∀ v ∈ ([.int 2, .int 3, .int 8, .int 23] : List V), IsN 23 v) ka0 (by simpa using ka1) (by decide)
      walk_at "rd"
      refine ⟨c, d, (ua : Int), ns, rfl, Da, by omega, fun k2 H3 k20 k21 kp2 hD2 => ?_⟩
      obtain ⟨n2, rfl⟩ : ∃ n2 : Nat, k2 = n2 := ⟨k2.toNat, by omega⟩
      have hn : n2 ≤ 23 := by omega
      walk_at "rd"
      refine ⟨_, rfl, ?_, ?_⟩
      · exact Nat.lt_of_le_of_lt (Nat.log2_le_self _) (by omega)
      · rw [show (2 : Int) + (n2 : Int) = ((2 + n2 : Nat) : Int) by omega, str_dg ⟨2 + n2, by omega⟩]
        exact q _ _ (Nat.le_trans (dg_len _) (by decide)) (fra.trans kp2) hD2
abbrev s_l_spoilt : Stmt := topS 43
abbrev N_l_spoilt : List Str := ["_law_draw_here", "_law_text", "_law_place", "_law_sign_here", "_law_kind"]
theorem sc_l_spoilt : FnScope ["_law_draw_here", "_law_text", "_law_place", "_law_sign_here", "_law_kind"] ["_law_draw_here", "_law_text"] (defScope s_l_spoilt) := ⟨rfl, rfl, rfl, by decide +kernel, rfl, by decide +kernel, by decide +kernel⟩
theorem can_l_spoilt (T : Bi mg) (F : Defd K mg "_law_spoilt" s_l_spoilt ["_law_draw_here", "_law_text"]) (C_l_pick : Can P w K mg base L2.CX0 2 "_law_pick" ["_law_draw_here", "_law_many"] spPick) : Can P w K mg base L2.CX0 3 "_law_spoilt" ["_law_draw_here", "_law_text"] spSpoilt := by
  refine can0 F sc_l_spoilt (fun vs H Q E h => ?_) (fun f cdv A outer s H vs Q E hr h => ⟨_, (pss_cons (ps_set (i := 2) sc_l_spoilt.nd rfl (by first | exact Or.inl rfl | exact Or.inr rfl) (pe_can C_l_pick hr (by decide) rfl (pa_cons (pv 0) (pa_cons (pe_op op_add (pe_callB call_lenS (by rfl) T.b_len boot_len (pa_cons (pv 1) pa_nil)) pe_int) pa_nil))))
  (pss_cons (ps_set (i := 3) sc_l_spoilt.nd rfl (by first | exact Or.inl rfl | exact Or.inr rfl) (pe_ix ix_strS (pe_strL [46, 103, 114, 119, 48, 49, 50, 51, 52, 53, 54, 55, 56, 57, 40, 41, 64, 38, 120, 32, 87, 45] (by decide +kernel)) (pe_can C_l_pick hr (by decide) rfl (pa_cons (pv 0) (pa_cons pe_int pa_nil))) (fun _ _ => rfl)))
  (pss_cons (ps_set (i := 4) sc_l_spoilt.nd rfl (by first | exact Or.inl rfl | exact Or.inr rfl) (pe_can C_l_pick hr (by decide) rfl (pa_cons (pv 0) (pa_cons pe_int pa_nil))))
  (pss_cons (ps_if (pt_cmpR op_lt (pv 4) pe_int (nomark _)) (pss_one (ps_ret (pe_op op_catS (pe_op op_catS (pe_slice sl_strS (pv 1) po_none (po_some (pv 2))) (pv 3)) (pe_slice sl_strS (pv 1) (po_some (pv 2)) po_none)))) pss_nil)
  (pss_cons (ps_if (pt_cmpR op_eq (pv 4) pe_int (nomark _)) (pss_one (ps_ret (pe_op op_catS (pe_slice sl_strS (pv 1) po_none (po_some (pv 2))) (pe_slice sl_strS (pv 1) (po_some (pe_op op_add (pv 2) pe_int)) po_none)))) pss_nil)
  (pss_cons (ps_if (pt_cmpR op_eq (pv 4) pe_int (nomark _)) (pss_one (ps_ret (pe_op op_catS (pe_op op_catS (pe_slice sl_strS (pv 1) po_none (po_some (pv 2))) (pv 3)) (pe_slice sl_strS (pv 1) (po_some (pe_op op_add (pv 2) pe_int)) po_none)))) pss_nil)
  (pss_cons (ps_if (pt_cmpR op_eq (pv 4) pe_int (nomark _)) (pss_one (ps_ret (pe_slice sl_strS (pv 1) po_none (po_some (pv 2))))) pss_nil)
  (pss_one (ps_ret (pe_op op_catS (pe_slice sl_strS (pv 1) po_none (po_some (pe_op op_add (pv 2) pe_int))) (pe_slice sl_strS (pv 1) (po_some (pv 2)) po_none))))))))))), ?_⟩)
  · obtain ⟨_, _, _, _, rfl, _⟩ := h
    rfl
  · obtain ⟨c, d, ns, l, rfl, hD, hl, q⟩ := h
    walk_at "rd"
    refine ⟨c, d, _, ns, rfl, hD, by omega, fun p H1 p0 p1 kp hD1 => ?_⟩
    obtain ⟨pn, rfl⟩ : ∃ pn : Nat, p = pn := ⟨p.toNat, by omega⟩
    have hp : pn ≤ l.length := by omega
    walk_at "rd"
    refine ⟨c, d, 22, ns, rfl, hD1, by decide, fun k H2 k0 k1 kp2 hD2 => ?_⟩
    have hk : k.toNat < 22 := by omega
    refine r_ixSS (small (by decide)) k0 (List.getElem?_eq_getElem hk) ?_
    generalize ([46, 103, 114, 119, 48, 49, 50, 51, 52, 53, 54, 55, 56, 57, 40, 41, 64, 38, 120, 32, 87, 45] : List Nat)[k.toNat] = sg
    walk_at "rd"
    refine ⟨c, d, 6, ns, rfl, hD2, by decide, fun kd H3 kd0 kd1 kp3 hD3 => ?_⟩
    have kpA := kp.trans (kp2.trans kp3)
    have e0 : ∀ i : Nat, cutL l none (some (i : Int)) = l.take i := fun i => by rw [cut_to (by omega), Int.toNat_natCast]
    have e1 : ∀ i : Nat, cutL l (some (i : Int)) none = l.drop i := fun i => by rw [cut_from (by omega), Int.toNat_natCast]
    have e02 : cutL l none (some ((pn : Int) + 2)) = l.take (pn + 2) := by rw [cut_to (by omega), show ((pn : Int) + 2).toNat = pn + 2 by omega]
    have e11 : cutL l (some ((pn : Int) + 1)) none = l.drop (pn + 1) := by rw [cut_from (by omega), show ((pn : Int) + 1).toNat = pn + 1 by omega]
    have lt : ∀ i : Nat, (l.take i).length = min i l.length := fun i => List.length_take
    have ld : ∀ i : Nat, (l.drop i).length = l.length - i := fun i => List.length_drop
    have fin : ∀ l2 : List Nat, l2.length ≤ l.length + 2 → Q (.str (S l2)) H3 := fun l2 h => q l2 H3 h kpA hD3
    have t1 := lt pn
    have t2 := ld pn
    have t3 := ld (pn + 1)
    have t4 := lt (pn + 2)
    walk_at "rd"
    refine r_ite (fun h => ?_) (fun h => ?_)
    · walk_at "rd"
      rw [e0]
      refine r_catS (small (by first | omega | (simp only [List.length_append, List.length_cons, List.length_nil]; omega))) ?_
      walk_at "rd"
      rw [e1]
      refine r_catS (small (by first | omega | (simp only [List.length_append, List.length_cons, List.length_nil]; omega))) ?_
      exact fin _ (by simp only [List.length_append, List.length_cons, List.length_nil]; omega)
    walk_at "rd"
    refine r_ite (fun h => ?_) (fun h => ?_)
    · walk_at "rd"
      rw [e0, e11]
      refine r_catS (small (by first | omega | (simp only [List.length_append, List.length_cons, List.length_nil]; omega))) ?_
      exact fin _ (by simp only [List.length_append, List.length_cons, List.length_nil]; omega)
    walk_at "rd"
    refine r_ite (fun h => ?_) (fun h => ?_)
    · walk_at "rd"
      rw [e0]
      refine r_catS (small (by first | omega | (simp only [List.length_append, List.length_cons, List.length_nil]; omega))) ?_
      walk_at "rd"
      rw [e11]
      refine r_catS (small (by first | omega | (simp only [List.length_append, List.length_cons, List.length_nil]; omega))) ?_
      exact fin _ (by simp only [List.length_append, List.length_cons, List.length_nil]; omega)
    walk_at "rd"
    refine r_ite (fun h => ?_) (fun h => ?_)
    · walk_at "rd"
      rw [e0]
      exact fin _ (by omega)
    · walk_at "rd"
      rw [e02, e1]
      refine r_catS (small (by first | omega | (simp only [List.length_append, List.length_cons, List.length_nil]; omega))) ?_
      exact fin _ (by simp only [List.length_append, List.length_cons, List.length_nil]; omega)
abbrev s_l_digits : Stmt := topS 45
abbrev N_l_digits : List Str := ["_law_draw_here", "_law_run_here", "_law_low"]
theorem sc_l_digits : FnScope ["_law_draw_here", "_law_run_here", "_law_low"] ["_law_draw_here"] (defScope s_l_digits) := ⟨rfl, rfl, rfl, by decide +kernel, rfl, by decide +kernel, by decide +kernel⟩
theorem can_l_digits (T : Bi mg) (F : Defd K mg "_law_digits" s_l_digits ["_law_draw_here"]) (C_l_pick : Can P w K mg base L2.CX0 2 "_law_pick" ["_law_draw_here", "_law_many"] spPick) : Can P w K mg base L2.CX0 3 "_law_digits" ["_law_draw_here"] spMake := by
  refine can0 F sc_l_digits (fun vs H Q E h => ?_) (fun f cdv A outer s H vs Q E hr h => ⟨_, (pss_cons (ps_set (i := 1) sc_l_digits.nd rfl (by first | exact Or.inl rfl | exact Or.inr rfl) (pe_op op_repS (pe_ix ix_list (pe_lst (pa_cons (pe_strL [57] (by decide +kernel)) (pa_cons (pe_strL [49, 48] (by decide +kernel)) (pa_cons (pe_strL [49] (by decide +kernel)) (pa_cons (pe_strL [48] (by decide +kernel)) pa_nil))))) (pe_can C_l_pick hr (by decide) rfl (pa_cons (pv 0) (pa_cons pe_int pa_nil))) (fun _ _ => rfl)) (pe_ix ix_list (pe_lst (pa_cons pe_int (pa_cons pe_int (pa_cons pe_int (pa_cons pe_int (pa_cons pe_int pa_nil)))))) (pe_can C_l_pick hr (by decide) rfl (pa_cons (pv 0) (pa_cons pe_int pa_nil))) (fun _ _ => rfl))))
  (pss_cons (ps_set (i := 2) sc_l_digits.nd rfl (by first | exact Or.inl rfl | exact Or.inr rfl) (pe_ix ix_list (pe_lst (pa_cons (pe_strL [] (by decide +kernel)) (pa_cons (pe_strL [119] (by decide +kernel)) (pa_cons (pe_strL [50, 40, 119] (by decide +kernel)) (pa_cons (pe_strL [119, 64] (by decide +kernel)) (pa_cons (pe_strL [119, 38] (by decide +kernel)) (pa_cons (pe_strL [51, 40, 103, 64] (by decide +kernel)) (pa_cons (pe_strL [119, 64, 50, 38] (by decide +kernel)) (pa_cons (pe_strL [50, 52, 40, 119, 41, 64] (by decide +kernel)) pa_nil))))))))) (pe_can C_l_pick hr (by decide) rfl (pa_cons (pv 0) (pa_cons pe_int pa_nil))) (fun _ _ => rfl)))
  (pss_one (ps_ret (pe_op op_catS (pe_op op_catS (pv 2) (pv 1)) (pe_ix ix_list (pe_lst (pa_cons (pe_strL [119] (by decide +kernel)) (pa_cons (pe_strL [40] (by decide +kernel)) (pa_cons (pe_strL [] (by decide +kernel)) (pa_cons (pe_strL [120] (by decide +kernel)) (pa_cons (pe_strL [41] (by decide +kernel)) (pa_cons (pe_strL [38] (by decide +kernel)) (pa_cons (pe_strL [46] (by decide +kernel)) (pa_cons (pe_strL [64] (by decide +kernel)) pa_nil))))))))) (pe_can C_l_pick hr (by decide) rfl (pa_cons (pv 0) (pa_cons pe_int pa_nil))) (fun _ _ => rfl))))))), ?_⟩)
  · obtain ⟨_, _, _, rfl, _⟩ := h
    rfl
  · obtain ⟨c, d, ns, rfl, hD, q⟩ := h
    walk_at "rd"
    refine ⟨small (by show 4 ≤ 1000000; decide), fun za hza => ?_⟩
    have exa := Evl.Ex.new (o := .lst [.str (S [57]), .str (S [49, 48]), .str (S [49]), .str (S [48])]) hza
    have ga : (upd H za (.lst [.str (S [57]), .str (S [49, 48]), .str (S [49]), .str (S [48])])) za = some (.lst [.str (S [57]), .str (S [49, 48]), .str (S [49]), .str (S [48])]) := upd_same
    have nda : za ≠ d := hD.nd hza
    generalize upd H za (.lst [.str (S [57]), .str (S [49, 48]), .str (S [49]), .str (S [48])]) = Ga at exa ga ⊢
    walk_at "rd"
    refine ⟨c, d, 4, ns, rfl, hD.ex' exa, by decide, fun ka Ka ka0 ka1 kpa Da => ?_⟩
    have gga := kpa _ _ nda ga
    have fra := (Kp.refl d H).trans ((Kp.of exa).trans kpa)
    obtain ⟨_, hva, ua, rfl, lua⟩ := pick_in (fun v hv => by simp only [List.mem_cons, List.not_mem_nil, or_false] at hv; rcases hv with rfl | rfl | rfl | rfl <;> exact ⟨_, rfl, by decide⟩ : ∀ v ∈ ([.str (S [57]), .str (S [49, 48]), .str (S [49]), .str (S [48])] : List V), IsT 2 v) ka0 (by simpa using ka1) (by decide)
    walk_at "rd"
    refine ⟨small (by show 5 ≤ 1000000; decide), fun zb hzb => ?_⟩
    have exb := Evl.Ex.new (o := .lst [.int 1, .int 2, .int 3, .int 60, .int 500]) hzb
    have gb : (upd Ka zb (.lst [.int 1, .int 2, .int 3, .int 60, .int 500])) zb = some (.lst [.int 1, .int 2, .int 3, .int 60, .int 500]) := upd_same
    have ndb : zb ≠ d := Da.nd hzb
    generalize upd Ka zb (.lst [.int 1, .int 2, .int 3, .int 60, .int 500]) = Gb at exb gb ⊢
    walk_at "rd"
    refine ⟨c, d, 5, ns, rfl, Da.ex' exb, by decide, fun kb Kb kb0 kb1 kpb Db => ?_⟩
    have ggb := kpb _ _ ndb gb
    have frb := (fra).trans ((Kp.of exb).trans kpb)
    obtain ⟨_, hvb, ub, rfl, lub⟩ := pick_in (fun v hv => by simp only [List.mem_cons, List.not_mem_nil, or_false] at hv; rcases hv with rfl | rfl | rfl | rfl | rfl <;> exact ⟨_, rfl, by decide⟩ : ∀ v ∈ ([.int 1, .int 2, .int 3, .int 60, .int 500] : List V), IsN 500 v) kb0 (by simpa using kb1) (by decide)
    walk_at "rd"
    have em : (List.replicate (ub : Int).toNat ua).flatten.length = ub * ua.length := by rw [Int.toNat_natCast]; simp [List.length_flatten, List.map_replicate, List.sum_replicate_nat]
    have le : ub * ua.length ≤ 1000 := by
      have := Nat.mul_le_mul lub lua
      omega
    refine r_repS (by omega) (by omega) (small (by rw [Int.toNat_natCast, Nat.mul_comm]; omega)) ?_
    generalize (List.replicate (ub : Int).toNat ua).flatten = rn at em ⊢
    walk_at "rd"
    refine ⟨small (by show 8 ≤ 1000000; decide), fun ze hze => ?_⟩
    have exe := Evl.Ex.new (o := .lst [.str (S []), .str (S [119]), .str (S [50, 40, 119]), .str (S [119, 64]), .str (S [119, 38]), .str (S [51, 40, 103, 64]), .str (S [119, 64, 50, 38]), .str (S [50, 52, 40, 119, 41, 64])]) hze
    have ge : (upd Kb ze (.lst [.str (S []), .str (S [119]), .str (S [50, 40, 119]), .str (S [119, 64]), .str (S [119, 38]), .str (S [51, 40, 103, 64]), .str (S [119, 64, 50, 38]), .str (S [50, 52, 40, 119, 41, 64])])) ze = some (.lst [.str (S []), .str (S [119]), .str (S [50, 40, 119]), .str (S [119, 64]), .str (S [119, 38]), .str (S [51, 40, 103, 64]), .str (S [119, 64, 50, 38]), .str (S [50, 52, 40, 119, 41, 64])]) := upd_same
    have nde : ze ≠ d := Db.nd hze
    generalize upd Kb ze (.lst [.str (S []), .str (S [119]), .str (S [50, 40, 119]), .str (S [119, 64]), .str (S [119, 38]), .str (S [51, 40, 103, 64]), .str (S [119, 64, 50, 38]), .str (S [50, 52, 40, 119, 41, 64])]) = Ge at exe ge ⊢
    walk_at "rd"
    refine ⟨c, d, 8, ns, rfl, Db.ex' exe, by decide, fun ke Ke ke0 ke1 kpe De => ?_⟩
    have gge := kpe _ _ nde ge
    have fre := (frb).trans ((Kp.of exe).trans kpe)
    obtain ⟨_, hve, ue, rfl, lue⟩ := pick_in (fun v hv => by simp only [List.mem_cons, List.not_mem_nil, or_false] at hv; rcases hv with rfl | rfl | rfl | rfl | rfl | rfl | rfl | rfl <;> exact ⟨_, rfl, by decide⟩ : ∀ v ∈ ([.str (S []), .str (S [119]), .str (S [50, 40, 119]), .str (S [119, 64]), .str (S [119, 38]), .str (S [51, 40, 103, 64]), .str (S [119, 64, 50, 38]), .str (S [50, 52, 40, 119, 41, 64])] : List V), IsT 6 v) ke0 (by simpa using ke1) (by decide)
    walk_at "rd"
    refine r_catS (small (by omega)) ?_
    walk_at "rd"
    refine ⟨small (by show 8 ≤ 1000000; decide), fun zf hzf => ?_⟩
    have exf := Evl.Ex.new (o := .lst [.str (S [119]), .str (S [40]), .str (S []), .str (S [120]), .str (S [41]), .str (S [38]), .str (S [46]), .str (S [64])]) hzf
    have gf : (upd Ke zf (.lst [.str (S [119]), .str (S [40]), .str (S []), .str (S [120]), .str (S [41]), .str (S [38]), .str (S [46]), .str (S [64])])) zf = some (.lst [.str (S [119]), .str (S [40]), .str (S []), .str (S [120]), .str (S [41]), .str (S [38]), .str (S [46]), .str (S [64])]) := upd_same
    have ndf : zf ≠ d := De.nd hzf
    generalize upd Ke zf (.lst [.str (S [119]), .str (S [40]), .str (S []), .str (S [120]), .str (S [41]), .str (S [38]), .str (S [46]), .str (S [64])]) = Gf at exf gf ⊢
    walk_at "rd"
    refine ⟨c, d, 8, ns, rfl, De.ex' exf, by decide, fun kf Kf kf0 kf1 kpf Df => ?_⟩
    have ggf := kpf _ _ ndf gf
    have frf := (fre).trans ((Kp.of exf).trans kpf)
    obtain ⟨_, hvf, uf, rfl, luf⟩ := pick_in (fun v hv => by simp only [List.mem_cons, List.not_mem_nil, or_false] at hv; rcases hv with rfl | rfl | rfl | rfl | rfl | rfl | rfl | rfl <;> exact ⟨_, rfl, by decide⟩ : ∀ v ∈ ([.str (S [119]), .str (S [40]), .str (S []), .str (S [120]), .str (S [41]), .str (S [38]), .str (S [46]), .str (S [64])] : List V), IsT 1 v) kf0 (by simpa using kf1) (by decide)
    walk_at "rd"
    refine r_catS (small (by rw [List.length_append]; omega)) ?_
    exact q _ Kf (by rw [List.length_append, List.length_append]; omega) frf Df
abbrev s_l_chain : Stmt := topS 44
abbrev N_l_chain : List Str := ["_law_draw_here", "_law_many", "_law_text", "_law_turn"]
theorem sc_l_chain : FnScope ["_law_draw_here", "_law_many", "_law_text", "_law_turn"] ["_law_draw_here"] (defScope s_l_chain) := ⟨rfl, rfl, rfl, by decide +kernel, rfl, by decide +kernel, by decide +kernel⟩
theorem can_l_chain (T : Bi mg) (F : Defd K mg "_law_chain" s_l_chain ["_law_draw_here"]) (C_l_pick : Can P w K mg base L2.CX0 2 "_law_pick" ["_law_draw_here", "_law_many"] spPick) (C_l_sign : Can P w K mg base L2.CX0 3 "_law_sign" ["_law_draw_here"] spSign) : Can P w K mg base L2.CX0 4 "_law_chain" ["_law_draw_here"] spMake := by
  refine can0 F sc_l_chain (fun vs H Q E h => ?_) (fun f cdv A outer s H vs Q E hr h => ⟨_, (pss_cons (ps_set (i := 1) sc_l_chain.nd rfl (by first | exact Or.inl rfl | exact Or.inr rfl) (pe_op op_add pe_int (pe_can C_l_pick hr (by decide) rfl (pa_cons (pv 0) (pa_cons pe_int pa_nil)))))
  (pss_cons (ps_set (i := 2) sc_l_chain.nd rfl (by first | exact Or.inl rfl | exact Or.inr rfl) (pe_strL [] (by decide +kernel)))
  (pss_cons (ps_for PassesOwn.never rfl (pi_range1 rfl T.b_range (pa_cons (pv 1) pa_nil)) (pg_name (i := 3) sc_l_chain.nd rfl (by first | exact Or.inl rfl | exact Or.inr rfl))
    (pss_one (ps_set (i := 2) sc_l_chain.nd rfl (by first | exact Or.inl rfl | exact Or.inr rfl) (pe_op op_catS (pe_op op_catS (pe_op op_catS (pv 2) (pe_ix ix_list (pe_lst (pa_cons (pe_strL [] (by decide +kernel)) (pa_cons (pe_strL [] (by decide +kernel)) (pa_cons (pe_strL [46] (by decide +kernel)) (pa_cons (pe_strL [119, 38] (by decide +kernel)) pa_nil))))) (pe_can C_l_pick hr (by decide) rfl (pa_cons (pv 0) (pa_cons pe_int pa_nil))) (fun _ _ => rfl))) (pe_callTy call_str_int (by rfl) T.b_str boot_str (pa_cons (pe_op op_add pe_int (pe_can C_l_pick hr (by decide) rfl (pa_cons (pv 0) (pa_cons pe_int pa_nil)))) pa_nil))) (pe_strL [40] (by decide +kernel))))))
  (pss_one (ps_ret (pe_op op_catS (pe_op op_catS (pv 2) (pe_can C_l_sign hr (by decide) rfl (pa_cons (pv 0) pa_nil))) (pe_slice sl_strS (pe_op op_repS (pe_strL [41] (by decide +kernel)) (pv 1)) (po_some (pe_ix ix_list (pe_lst (pa_cons pe_int (pa_cons pe_int (pa_cons pe_int (pa_cons pe_int pa_nil))))) (pe_can C_l_pick hr (by decide) rfl (pa_cons (pv 0) (pa_cons pe_int pa_nil))) (fun _ _ => rfl))) po_none))))))), ?_⟩)
  · obtain ⟨_, _, _, rfl, _⟩ := h
    rfl
  · obtain ⟨c, d, ns, rfl, hD, q⟩ := h
    walk_at "rd"
    refine ⟨c, d, 4, ns, rfl, hD, by decide, fun m H1 m0 m1 kp1 hD1 => ?_⟩
    have m8 : (5 + m).toNat ≤ 8 := by omega
    walk_at "rd"
    refine forR (fun i σ' H' => ∃ (l : List Nat) (o3 : Option V), σ' = [some (.ref d), some (.int (5 + m)), some (.str (S l)), o3] ∧ Kp d H H' ∧ Dr ns c d H' ∧ l.length ≤ 5 * i) ⟨[], _, rfl, kp1, hD1, by show 0 ≤ _; omega⟩ (fun i σ' H2 hi hJ => ?_) (fun σ' H2 hJ => ?_)
    · obtain ⟨l, o3, rfl, kp2, hD2, hl⟩ := hJ
      walk_at "rd"
      refine ⟨small (by show 4 ≤ 1000000; decide), fun za hza => ?_⟩
      have exa := Evl.Ex.new (o := .lst [.str (S []), .str (S []), .str (S [46]), .str (S [119, 38])]) hza
      have ga : (upd H2 za (.lst [.str (S []), .str (S []), .str (S [46]), .str (S [119, 38])])) za = some (.lst [.str (S []), .str (S []), .str (S [46]), .str (S [119, 38])]) := upd_same
      have nda : za ≠ d := hD2.nd hza
      generalize upd H2 za (.lst [.str (S []), .str (S []), .str (S [46]), .str (S [119, 38])]) = Ga at exa ga ⊢
      walk_at "rd"
      refine ⟨c, d, 4, ns, rfl, hD2.ex' exa, by decide, fun ka Ka ka0 ka1 kpa Da => ?_⟩
      have gga := kpa _ _ nda ga
      have fra := (kp2).trans ((Kp.of exa).trans kpa)
      obtain ⟨_, hva, ua, rfl, lua⟩ := pick_in (fun v hv => by simp only [List.mem_cons, List.not_mem_nil, or_false] at hv; rcases hv with rfl | rfl | rfl | rfl <;> exact ⟨_, rfl, by decide⟩ : ∀ v ∈ ([.str (S []), .str (S []), .str (S [46]), .str (S [119, 38])] : List V), IsT 2 v) ka0 (by simpa using ka1) (by decide)
      walk_at "rd"
      refine r_catS (small (by omega)) ?_
      walk_at "rd"
      refine ⟨c, d, 2, ns, rfl, Da, by decide, fun n H3 n0 n1 kp3 hD3 => ?_⟩
      obtain ⟨n2, rfl⟩ : ∃ n2 : Nat, n = n2 := ⟨n.toNat, by omega⟩
      walk_at "rd"
      refine ⟨_, rfl, Nat.lt_of_le_of_lt (Nat.log2_le_self _) (by omega), ?_⟩
      rw [show (2 : Int) + (n2 : Int) = ((2 + n2 : Nat) : Int) by omega, str_dg ⟨2 + n2, by omega⟩]
      have dl := dg_len (2 + n2)
      have dl1 : (dg (2 + n2)).length = 1 := by unfold dg; rw [if_pos (by omega)]; rfl
      walk_at "rd"
      refine r_catS (small (by rw [List.length_append]; show _ + _ + (dg (2 + n2)).length ≤ _; omega)) ?_
      walk_at "rd"
      refine r_catS (small (by rw [List.length_append, List.length_append]; show _ + _ + (dg (2 + n2)).length + 1 ≤ _; omega)) ?_
      walk_at "rd"
      exact ⟨_, _, rfl, fra.trans kp3, hD3, by rw [List.length_append, List.length_append, List.length_append]; show _ + _ + (dg (2 + n2)).length + 1 ≤ _; omega⟩
    · obtain ⟨l, o3, rfl, kp2, hD2, hl⟩ := hJ
      walk_at "rd"
      refine ⟨c, d, ns, rfl, hD2, fun x H3 kp3 hD3 => ?_⟩
      walk_at "rd"
      refine r_catS (small (by show _ + 1 ≤ _; omega)) ?_
      walk_at "rd"
      have em : (List.replicate (5 + m).toNat [41]).flatten.length = (5 + m).toNat := by simp [List.length_flatten, List.map_replicate, List.sum_replicate_nat]
      refine r_repS (by omega) (by omega) (small (by show 1 * _ ≤ _; omega)) ?_
      generalize (List.replicate (5 + m).toNat [41]).flatten = rn at em ⊢
      walk_at "rd"
      refine ⟨small (by show 4 ≤ 1000000; decide), fun za hza => ?_⟩
      have exa := Evl.Ex.new (o := .lst [.int 0, .int 0, .int 0, .int 1]) hza
      have ga : (upd H3 za (.lst [.int 0, .int 0, .int 0, .int 1])) za = some (.lst [.int 0, .int 0, .int 0, .int 1]) := upd_same
      have nda : za ≠ d := hD3.nd hza
      generalize upd H3 za (.lst [.int 0, .int 0, .int 0, .int 1]) = Ga at exa ga ⊢
      walk_at "rd"
      refine ⟨c, d, 4, ns, rfl, hD3.ex' exa, by decide, fun ka Ka ka0 ka1 kpa Da => ?_⟩
      have gga := kpa _ _ nda ga
      have fra := (kp2.trans kp3).trans ((Kp.of exa).trans kpa)
      obtain ⟨_, hva, ua, rfl, lua⟩ := pick_in (fun v hv => by simp only [List.mem_cons, List.not_mem_nil, or_false] at hv; rcases hv with rfl | rfl | rfl | rfl <;> exact ⟨_, rfl, by decide⟩ : ∀ v ∈ ([.int 0, .int 0, .int 0, .int 1] : List V), IsN 1 v) ka0 (by simpa using ka1) (by decide)
      walk_at "rd"
      rw [cut_from (by omega), Int.toNat_natCast]
      have dl : (rn.drop ua).length = rn.length - ua := List.length_drop
      refine r_catS (small (by rw [List.length_append]; show _ + 1 + _ ≤ _; omega)) ?_
      exact q _ Ka (by rw [List.length_append, List.length_append]; show _ + 1 + _ ≤ _; omega) fra Da
end
end Fk

set_option Elab.async false
set_option linter.all false
set_option maxRecDepth 100000
set_option maxHeartbeats 4000000
namespace Fk
open PySem PySem.Spec PyProof.Rows L2 Fg Rt
local macro_rules | `(tactic| walk_at "rd1") => `(tactic| first
  | with_reducible refine r_seq ?_
  | with_reducible refine r_asg ?_
  | with_reducible refine r_gname ?_
  | with_reducible refine r_gsub ?_
  | with_reducible refine r_ret ?_
  | with_reducible refine r_retN ?_
  | with_reducible refine r_next ?_
  | with_reducible refine r_drop ?_
  | with_reducible refine r_ifS ?_
  | with_reducible refine r_if ?_
  | with_reducible refine r_par ?_
  | with_reducible refine r_pair ?_
  | with_reducible refine r_test ?_
  | with_reducible refine r_tB ?_
  | with_reducible refine r_not ?_
  | with_reducible refine r_and ?_
  | with_reducible refine r_or ?_
  | with_reducible refine r_andV ?_
  | with_reducible refine r_orV ?_
  | with_reducible refine r_notV ?_
  | with_reducible refine r_nil ?_
  | with_reducible refine r_cons ?_
  | with_reducible refine r_call ?_
  | with_reducible refine r_callS ?_
  | with_reducible refine r_cb ?_
  | with_reducible refine r_then ?_
  | with_reducible refine r_tup ?_
  | with_reducible refine r_lst ?_
  | with_reducible refine r_sl ?_
  | with_reducible refine r_nopart ?_
  | with_reducible refine r_part ?_
  | with_reducible refine r_lcR1 ?_
  | with_reducible refine r_lcR2 ?_
  | with_reducible refine r_lcL ?_
  | with_reducible refine r_lcT ?_
  | with_reducible refine r_forR1 ?_
  | with_reducible refine r_forR2 ?_
  | with_reducible refine r_forL ?_
  | with_reducible refine r_forT ?_
  | with_reducible refine r_forE ?_
  | with_reducible refine r_strE ?_
  | ((with_reducible refine r_rng1 ?hc ?_); (case hc => omega))
  | ((with_reducible refine r_rng2 ?hc ?_); (case hc => omega))
  | ((with_reducible refine' r_refL ?hc ?_); (case hc => first | assumption | exact Evl.sq_of (by assumption)))
  | ((with_reducible refine' r_refT ?hc ?_); (case hc => first | assumption | exact Evl.st_of (by assumption)))
  | with_reducible refine r_op ?_
  | with_reducible refine r_un ?_
  | with_reducible refine r_chain ?_
  | ((with_reducible refine' r_var ?hv ?_); (case hv => exact rfl))
  | with_reducible refine r_cS ?_
  | with_reducible refine r_cs ?_
  | with_reducible refine r_c ?_
  | with_reducible refine r_yes ?_
  | with_reducible refine r_bm ?_
  | with_reducible refine r_bl ?_
  | with_reducible refine r_in ?_
  | with_reducible refine r_ty ?_
  | with_reducible refine r_I0 ?_
  | ((with_reducible refine r_I ?hc ?_); (case hc => first | assumption | (show (0 : Int) < _; decide) | exact Or.inr ⟨by decide, by decide⟩ | exact Or.inr ⟨by omega, by omega⟩ | exact Or.inl ⟨by decide, by decide⟩ | exact (show CDivW _ _ from ⟨by decide, by decide +kernel⟩) | exact (show CPowW _ _ from ⟨by decide, by decide +kernel⟩) | (show (0 : Int) < _; omega)))
  | with_reducible refine r_U ?_
  | with_reducible refine r_eqI ?_
  | with_reducible refine r_neI ?_
  | with_reducible refine r_eqS ?_
  | with_reducible refine r_neS ?_
  | with_reducible refine r_eqB ?_
  | with_reducible refine r_neB ?_
  | with_reducible refine r_niS ?_
  | with_reducible refine r_inSS ?_
  | ((with_reducible refine r_slSS ?hc ?_); (case hc => first | exact small (by omega) | exact small (by simp; omega)))
  | ((with_reducible refine r_lenS ?hc ?_); (case hc => first | exact small (by omega) | exact small (by simp; omega)))
  | ((with_reducible refine' r_lenL ?hc ?_); (case hc => first | assumption | exact Evl.sq_of (by assumption)))
  | ((with_reducible refine' r_lenT ?hc ?_); (case hc => first | assumption | exact Evl.st_of (by assumption)))
  | ((with_reducible refine' r_ixL ?h1 ?h2 ?h3 ?_); (case h1 => first | assumption | exact Evl.sq_of (by assumption) | exact Evl.sq_of upd_same); (case h2 => first | decide | omega); (case h3 => first | exact rfl | assumption))
  | ((with_reducible refine' r_ixT ?h1 ?h2 ?h3 ?_); (case h1 => first | assumption | exact Evl.st_of (by assumption)); (case h2 => first | decide | omega); (case h3 => first | exact rfl | assumption))
  | with_reducible refine r_T ?_
  | with_reducible refine r_notNn ?_
  | with_reducible refine r_notN_int ?_
  | with_reducible refine r_notN_str ?_
  | with_reducible refine r_notN_ref ?_
  | with_reducible refine r_isNn ?_
  | with_reducible refine r_isN_int ?_
  | with_reducible refine r_isN_str ?_
  | with_reducible refine r_isN_ref ?_
  | ((with_reducible refine' r_isi ?ht ?hk ?_); (case ht => first | exact .base (.int _) | exact .base (.bl _) | exact .base (.str _) | exact .base .non | exact .base (.lst (by assumption)) | exact .base (.tup (by assumption))); (case hk => first | exact kb_int_int | exact kb_int_bool | exact kb_int_str | exact kb_int_list | exact kb_int_tuple | exact kb_bool_int | exact kb_bool_bool | exact kb_bool_str | exact kb_bool_list | exact kb_bool_tuple | exact kb_str_int | exact kb_str_bool | exact kb_str_str | exact kb_str_list | exact kb_str_tuple | exact kb_NoneType_int | exact kb_NoneType_bool | exact kb_NoneType_str | exact kb_NoneType_list | exact kb_NoneType_tuple | exact kb_list_int | exact kb_list_bool | exact kb_list_str | exact kb_list_list | exact kb_list_tuple | exact kb_tuple_int | exact kb_tuple_bool | exact kb_tuple_str | exact kb_tuple_list | exact kb_tuple_tuple))
  | with_reducible refine r_F ?_
  | with_reducible refine r_nT ?_
  | with_reducible refine r_nF ?_
  | with_reducible refine r_mko ?_
  | with_reducible refine r_xf ?_
  | ((with_reducible refine' r_sum ?hc ?_); (case hc => first | assumption | exact Evl.sq_of (by assumption)))
  | ((with_reducible refine' r_setL ?h1 ?h2 ?h3 ?_); (case h1 => first | assumption | exact upd_same); (case h2 => first | decide | omega); (case h3 => first | (show _ < _; decide) | (simp; done)))
  | with_reducible refine r_int ?_
  | with_reducible refine r_abs ?_)
local macro_rules | `(tactic| walk_at "rd") => `(tactic| repeat (walk_at "rd1"))

section
variable {P : Program} {w : World} {K : PySem.W.Frag} {mg : Str → Option Value} {base : Heap}
/-- the tally: k turns -/
def Tally (t : Addr) (k : Nat) (H : Hp) : Prop := H t = some (.lst (List.replicate k (.int 1)))
theorem r_ifAll {cnd : TT} {t u : TS} {D : Ends} {σ : L2.St} {H : Hp} (b : Bool) (hc : ∀ Q : Bool → Hp → Prop, Q b H → cnd σ H Q) (ht : b = true → t D σ H) (hu : b = false → u D σ H) : tIfS cnd t u D σ H := hc _ (by
  cases b with
  | true => exact ht rfl
  | false => exact hu rfl)
theorem Kt.mut {d t L : Addr} {H H' : Hp} {o : HO} (k : Kt d t H H') (h : H L = none) : Kt d t H (upd H' L o) := fun b u n1 n2 hb => by
  have nL : b ≠ L := fun z => by rw [z, h] at hb; cases hb
  rw [upd_ne nL]
  exact k b u n1 n2 hb
theorem joinL_le : ∀ ys : List (List Nat), (TL.joinL [38] ys).length ≤ (ys.map (·.length)).sum + ys.length
  | [] => Nat.zero_le _
  | [p] => by
    show p.length ≤ (p.length + 0) + 1
    omega
  | p :: q :: r => by
    have h := joinL_le (q :: r)
    have e : TL.joinL [38] (p :: q :: r) = p ++ [38] ++ TL.joinL [38] (q :: r) := by simp [TL.joinL]
    rw [e, List.length_append, List.length_append, List.map_cons, List.sum_cons]
    show p.length + 1 + _ ≤ p.length + _ + ((q :: r).length + 1)
    omega
def spPartX (n : Nat) : Sp := fun vs H Q _ => ∃ (c d t : Addr) (dp k : Nat) (ns : List Int), vs = [.ref d, .int (dp : Int), .ref t] ∧ Dr ns c d H ∧ Tally t k H ∧ t ≠ d ∧ t ≠ c ∧ dp ≤ 6 ∧ 6 ≤ n + dp ∧ k ≤ 29 ∧
  ∀ (l : List Nat) (k' : Nat) H', Kt d t H H' → Dr ns c d H' → Tally t k' H' → k < k' → k' ≤ 32 + 3 * (6 - dp) → l.length + 2 ≤ 9 * (k' - k) → Q (.str (S l)) H'
def spPartsX (n : Nat) : Sp := fun vs H Q _ => ∃ (c d t : Addr) (dp k : Nat) (ns : List Int), vs = [.ref d, .int (dp : Int), .ref t] ∧ Dr ns c d H ∧ Tally t k H ∧ t ≠ d ∧ t ≠ c ∧ dp ≤ 6 ∧ 6 ≤ n + dp ∧ k ≤ 29 ∧
  ∀ (l : List Nat) (k' : Nat) H', Kt d t H H' → Dr ns c d H' → Tally t k' H' → k < k' → k' ≤ 32 + 3 * (6 - dp) → l.length + 1 ≤ 9 * (k' - k) → Q (.str (S l)) H'
def spBelowX : Nat → Sp
  | 0 => fun _ _ _ _ => False
  | n + 1 => spPartsX n
abbrev s_l_part_text : Stmt := topS 41
abbrev N_l_part_text : List Str := ["_law_draw_here", "_law_depth", "_law_tally", "_law_text", "_law_turn", "_law_kind"]
theorem sc_l_part_text : FnScope ["_law_draw_here", "_law_depth", "_law_tally", "_law_text", "_law_turn", "_law_kind"] ["_law_draw_here", "_law_depth", "_law_tally"] (defScope s_l_part_text) := ⟨rfl, rfl, rfl, by decide +kernel, rfl, by decide +kernel, by decide +kernel⟩
theorem can_l_part_text (T : Bi mg) (F : Defd K mg "_law_part_text" s_l_part_text ["_law_draw_here", "_law_depth", "_law_tally"]) {n k : Nat} (hk : 3 ≤ k) (C_l_pick : Can P w K mg base L2.CX0 2 "_law_pick" ["_law_draw_here", "_law_many"] spPick) (C_l_sign : Can P w K mg base L2.CX0 3 "_law_sign" ["_law_draw_here"] spSign) (C_l_number : Can P w K mg base L2.CX0 3 "_law_number" ["_law_draw_here"] spNumber) (C_l_parts_text : Can P w K mg base L2.CX0 k "_law_parts_text" ["_law_draw_here", "_law_depth", "_law_tally"] (spBelowX n)) : Can P w K mg base L2.CX0 (k + 1) "_law_part_text" ["_law_draw_here", "_law_depth", "_law_tally"] (spPartX n) := by
  refine can0 F sc_l_part_text (fun vs H Q E h => ?_) (fun f cdv A outer s H vs Q E hr h => ⟨_, (pss_cons (ps_set (i := 3) sc_l_part_text.nd rfl (by first | exact Or.inl rfl | exact Or.inr rfl) (pe_strL [] (by decide +kernel)))
  (pss_cons (ps_for PassesOwn.never rfl (pi_range1 rfl T.b_range (pa_cons (pe_op op_add pe_int (pe_can C_l_pick hr (by omega) rfl (pa_cons (pv 0) (pa_cons pe_int pa_nil)))) pa_nil)) (pg_name (i := 4) sc_l_part_text.nd rfl (by first | exact Or.inl rfl | exact Or.inr rfl))
    (pss_cons (ps_expr (pe_bm PySem.F.plainAttrs_list PySem.F.slot_list_append PySem.F.type_list_append mt_append (pv 2) (pa_cons pe_int pa_nil)))
  (pss_cons (ps_set (i := 5) sc_l_part_text.nd rfl (by first | exact Or.inl rfl | exact Or.inr rfl) (pe_can C_l_pick hr (by omega) rfl (pa_cons (pv 0) (pa_cons pe_int pa_nil))))
  (pss_one (ps_if (PW.pt (pw_and (pt_cmpR op_eq (pv 5) pe_int (nomark _)) (pw_and (pt_cmpR op_lt (pv 1) pe_int (nomark _)) (pw_and1 (pt_cmpR op_lt (pe_callB call_lenQ (by rfl) T.b_len boot_len (pa_cons (pv 2) pa_nil)) pe_int (nomark _)))))) (pss_one (ps_set (i := 3) sc_l_part_text.nd rfl (by first | exact Or.inl rfl | exact Or.inr rfl) (pe_op op_catS (pe_op op_catS (pe_op op_catS (pe_op op_catS (pv 3) (pe_can C_l_number hr (by omega) rfl (pa_cons (pv 0) pa_nil))) (pe_strL [40] (by decide +kernel))) (pe_can C_l_parts_text hr (by omega) rfl (pa_cons (pv 0) (pa_cons (pe_op op_add (pv 1) pe_int) (pa_cons (pv 2) pa_nil))))) (pe_strL [41] (by decide +kernel))))) (pss_one (ps_if (pt_cmpR op_eq (pv 5) pe_int (nomark _)) (pss_one (ps_set (i := 3) sc_l_part_text.nd rfl (by first | exact Or.inl rfl | exact Or.inr rfl) (pe_op op_catS (pe_op op_catS (pv 3) (pe_can C_l_number hr (by omega) rfl (pa_cons (pv 0) pa_nil))) (pe_can C_l_sign hr (by omega) rfl (pa_cons (pv 0) pa_nil))))) (pss_one (ps_set (i := 3) sc_l_part_text.nd rfl (by first | exact Or.inl rfl | exact Or.inr rfl) (pe_op op_catS (pv 3) (pe_can C_l_sign hr (by omega) rfl (pa_cons (pv 0) pa_nil))))))))))))
  (pss_cons (ps_set (i := 5) sc_l_part_text.nd rfl (by first | exact Or.inl rfl | exact Or.inr rfl) (pe_can C_l_pick hr (by omega) rfl (pa_cons (pv 0) (pa_cons pe_int pa_nil))))
  (pss_cons (ps_if (pt_cmpR op_eq (pv 5) pe_int (nomark _)) (pss_one (ps_set (i := 3) sc_l_part_text.nd rfl (by first | exact Or.inl rfl | exact Or.inr rfl) (pe_op op_catS (pe_op op_catS (pv 3) (pe_strL [64] (by decide +kernel))) (pe_callTy call_str_int (by rfl) T.b_str boot_str (pa_cons (pe_op op_add pe_int (pe_can C_l_pick hr (by omega) rfl (pa_cons (pv 0) (pa_cons pe_int pa_nil)))) pa_nil))))) pss_nil)
  (pss_cons (ps_if (pt_cmpR op_eq (pv 5) pe_int (nomark _)) (pss_one (ps_set (i := 3) sc_l_part_text.nd rfl (by first | exact Or.inl rfl | exact Or.inr rfl) (pe_op op_catS (pe_op op_catS (pv 3) (pe_strL [64] (by decide +kernel))) (pe_callTy call_str_int (by rfl) T.b_str boot_str (pa_cons (pe_op op_add pe_int (pe_can C_l_pick hr (by omega) rfl (pa_cons (pv 0) (pa_cons pe_int pa_nil)))) pa_nil))))) pss_nil)
  (pss_one (ps_ret (pv 3)))))))), ?_⟩)
  · obtain ⟨_, _, _, _, _, _, rfl, _⟩ := h
    rfl
  · obtain ⟨c, d, t, dp, k0, ns, rfl, hD, hT, td, tc, d6, hnd, k29, q⟩ := h
    walk_at "rd"
    refine ⟨c, d, 3, ns, rfl, hD, by decide, fun m H1 m0 m1 kp1 hD1 => ?_⟩
    have hT1 : Tally t k0 H1 := kp1 _ _ td hT
    have hn3 : (1 + m).toNat ≤ 3 ∧ 1 ≤ (1 + m).toNat := by omega
    walk_at "rd"
    refine forR (fun i σ' H' => ∃ (l : List Nat) (k' : Nat) (o4 o5 : Option V), σ' = [some (.ref d), some (.int (dp : Int)), some (.ref t), some (.str (S l)), o4, o5] ∧ Kt d t H H' ∧ Dr ns c d H' ∧ Tally t k' H' ∧ k0 + i ≤ k' ∧ k' ≤ 29 + 3 * (6 - dp) + i ∧ l.length + 5 * i ≤ 9 * (k' - k0)) ⟨[], k0, _, _, rfl, .kp kp1, hD1, hT1, by omega, by omega, by show 0 + 5 * 0 ≤ _; omega⟩ (fun i σ' H2 hi hJ => ?_) (fun σ' H2 hJ => ?_)
    · obtain ⟨l, k', o4, o5, rfl, kt, hD2, hT2, hk1, hk2, hl⟩ := hJ
      walk_at "rd"
      refine ⟨.inl ⟨rfl, _, Evl.sq_of hT2⟩, ?_⟩
      walk_at "rd"
      refine ⟨t, _, _, rfl, rfl, hT2, by rw [List.length_replicate, sizeLine_eq]; omega, ?_⟩
      have hT3 : Tally t (k' + 1) (upd H2 t (.lst (List.replicate k' (.int 1) ++ [.int 1]))) := by
        unfold Tally
        rw [upd_same, List.replicate_succ']
      have kt3 : Kt d t H2 (upd H2 t (.lst (List.replicate k' (.int 1) ++ [.int 1]))) := .put
      have hD3 : Dr ns c d (upd H2 t (.lst (List.replicate k' (.int 1) ++ [.int 1]))) := hD2.mut tc td
      generalize upd H2 t (.lst (List.replicate k' (.int 1) ++ [.int 1])) = H3 at hT3 kt3 hD3 ⊢
      walk_at "rd"
      refine ⟨c, d, 5, ns, rfl, hD3, by decide, fun kd H4 kd0 kd1 kp4 hD4 => ?_⟩
      have hT4 : H4 t = some (.lst (List.replicate (k' + 1) (.int 1))) := kp4 _ _ td hT3
      have kt4 := (kt.trans kt3).trans (.kp kp4)
      have lim : l.length ≤ 9 * (29 + 18 + 3) := by omega
      walk_at "rd"
      refine r_ite (fun g1 => ?_) (fun g1 => ?_)
      · walk_at "rd"
        refine r_ite (fun g2 => ?_) (fun g2 => ?_)
        · walk_at "rd"
          rw [List.length_replicate]
          refine r_ite (fun g3 => ?_) (fun g3 => ?_)
          · have g3' : ((k' + 1 : Nat) : Int) < 30 := g3
            walk_at "rd"
            refine ⟨c, d, ns, rfl, hD4, fun u H5 hu kp5 hD5 => ?_⟩
            have hT5 : Tally t (k' + 1) H5 := kp5 _ _ td hT4
            walk_at "rd"
            refine r_catS (small (by omega)) ?_
            walk_at "rd"
            refine r_catS (small (by rw [List.length_append]; show _ + 1 ≤ _; omega)) ?_
            walk_at "rd"
            obtain ⟨n, rfl⟩ : ∃ n', n = n' + 1 := ⟨n - 1, by omega⟩
            refine ⟨c, d, t, dp + 1, k' + 1, ns, by rw [Int.natCast_add]; rfl, hD5, hT5, td, tc, by omega, by omega, by omega, fun l2 k2 H6 kt6 hD6 hT6 hk3 hk4 hl2 => ?_⟩
            have lim2 : l2.length ≤ 9 * (32 + 18) := by omega
            walk_at "rd"
            refine r_catS (small (by rw [List.length_append, List.length_append]; show _ + 1 + _ ≤ _; omega)) ?_
            walk_at "rd"
            refine r_catS (small (by rw [List.length_append, List.length_append, List.length_append]; show _ + 1 + _ + 1 ≤ _; omega)) ?_
            walk_at "rd"
            refine ⟨_, k2, _, _, rfl, kt4.trans ((Kt.kp kp5).trans kt6), hD6, hT6, by omega, by omega, ?_⟩
            rw [List.length_append, List.length_append, List.length_append, List.length_append]
            show l.length + u.length + 1 + l2.length + 1 + 5 * (i + 1) ≤ _
            omega
          · have g3' : True := trivial
            walk_at "rd"
            refine r_ite (fun h3 => ?_) (fun h3 => ?_)
            · walk_at "rd"
              refine ⟨c, d, ns, rfl, hD4, fun u H5 hu kp5 hD5 => ?_⟩
              walk_at "rd"
              refine r_catS (small (by omega)) ?_
              walk_at "rd"
              refine ⟨c, d, ns, rfl, hD5, fun x H6 kp6 hD6 => ?_⟩
              walk_at "rd"
              refine r_catS (small (by rw [List.length_append]; show _ + 1 ≤ _; omega)) ?_
              walk_at "rd"
              refine ⟨_, k' + 1, _, _, rfl, kt4.trans ((Kt.kp kp5).trans (.kp kp6)), hD6, kp6 _ _ td (kp5 _ _ td hT4), by omega, by omega, ?_⟩
              rw [List.length_append, List.length_append]
              show l.length + u.length + 1 + 5 * (i + 1) ≤ _
              omega
            · walk_at "rd"
              refine ⟨c, d, ns, rfl, hD4, fun x H6 kp6 hD6 => ?_⟩
              walk_at "rd"
              refine r_catS (small (by show _ + 1 ≤ _; omega)) ?_
              walk_at "rd"
              refine ⟨_, k' + 1, _, _, rfl, kt4.trans (.kp kp6), hD6, kp6 _ _ td hT4, by omega, by omega, ?_⟩
              rw [List.length_append]
              show l.length + 1 + 5 * (i + 1) ≤ _
              omega
        · have g3' : True := trivial
          walk_at "rd"
          refine r_ite (fun h3 => ?_) (fun h3 => ?_)
          · walk_at "rd"
            refine ⟨c, d, ns, rfl, hD4, fun u H5 hu kp5 hD5 => ?_⟩
            walk_at "rd"
            refine r_catS (small (by omega)) ?_
            walk_at "rd"
            refine ⟨c, d, ns, rfl, hD5, fun x H6 kp6 hD6 => ?_⟩
            walk_at "rd"
            refine r_catS (small (by rw [List.length_append]; show _ + 1 ≤ _; omega)) ?_
            walk_at "rd"
            refine ⟨_, k' + 1, _, _, rfl, kt4.trans ((Kt.kp kp5).trans (.kp kp6)), hD6, kp6 _ _ td (kp5 _ _ td hT4), by omega, by omega, ?_⟩
            rw [List.length_append, List.length_append]
            show l.length + u.length + 1 + 5 * (i + 1) ≤ _
            omega
          · walk_at "rd"
            refine ⟨c, d, ns, rfl, hD4, fun x H6 kp6 hD6 => ?_⟩
            walk_at "rd"
            refine r_catS (small (by show _ + 1 ≤ _; omega)) ?_
            walk_at "rd"
            refine ⟨_, k' + 1, _, _, rfl, kt4.trans (.kp kp6), hD6, kp6 _ _ td hT4, by omega, by omega, ?_⟩
            rw [List.length_append]
            show l.length + 1 + 5 * (i + 1) ≤ _
            omega
      · have g3' : True := trivial
        walk_at "rd"
        refine r_ite (fun h3 => ?_) (fun h3 => ?_)
        · walk_at "rd"
          refine ⟨c, d, ns, rfl, hD4, fun u H5 hu kp5 hD5 => ?_⟩
          walk_at "rd"
          refine r_catS (small (by omega)) ?_
          walk_at "rd"
          refine ⟨c, d, ns, rfl, hD5, fun x H6 kp6 hD6 => ?_⟩
          walk_at "rd"
          refine r_catS (small (by rw [List.length_append]; show _ + 1 ≤ _; omega)) ?_
          walk_at "rd"
          refine ⟨_, k' + 1, _, _, rfl, kt4.trans ((Kt.kp kp5).trans (.kp kp6)), hD6, kp6 _ _ td (kp5 _ _ td hT4), by omega, by omega, ?_⟩
          rw [List.length_append, List.length_append]
          show l.length + u.length + 1 + 5 * (i + 1) ≤ _
          omega
        · walk_at "rd"
          refine ⟨c, d, ns, rfl, hD4, fun x H6 kp6 hD6 => ?_⟩
          walk_at "rd"
          refine r_catS (small (by show _ + 1 ≤ _; omega)) ?_
          walk_at "rd"
          refine ⟨_, k' + 1, _, _, rfl, kt4.trans (.kp kp6), hD6, kp6 _ _ td hT4, by omega, by omega, ?_⟩
          rw [List.length_append]
          show l.length + 1 + 5 * (i + 1) ≤ _
          omega
    · obtain ⟨l, k', o4, o5, rfl, kt, hD2, hT2, hk1, hk2, hl⟩ := hJ
      have lim : l.length ≤ 9 * (29 + 18 + 3) := by omega
      walk_at "rd"
      refine ⟨c, d, 8, ns, rfl, hD2, by decide, fun kd H3 kd0 kd1 kp3 hD3 => ?_⟩
      have hT3 : Tally t k' H3 := kp3 _ _ td hT2
      have kt3 := kt.trans (.kp kp3)
      have out : ∀ (l2 : List Nat) (H4 : Hp), Kp d H3 H4 → Dr ns c d H4 → l2.length ≤ l.length + 3 → Q (.str (S l2)) H4 := fun l2 H4 kp4 hD4 h => q l2 k' H4 (kt3.trans (.kp kp4)) hD4 (kp4 _ _ td hT3) (by omega) (by omega) (by omega)
      walk_at "rd"
      refine r_ite (fun h0 => ?_) (fun h0 => ?_)
      · walk_at "rd"
        refine r_catS (small (by show _ + 1 ≤ _; omega)) ?_
        walk_at "rd"
        refine ⟨c, d, 30, ns, rfl, hD3, by decide, fun n2 H4 n0 n1 kp4 hD4 => ?_⟩
        obtain ⟨n2, rfl⟩ : ∃ n3 : Nat, n2 = n3 := ⟨n2.toNat, by omega⟩
        walk_at "rd"
        refine ⟨_, rfl, Nat.lt_of_le_of_lt (Nat.log2_le_self _) (by omega), ?_⟩
        rw [show (1 : Int) + (n2 : Int) = ((1 + n2 : Nat) : Int) by omega, str_dg ⟨1 + n2, by omega⟩]
        have dl : (dg (1 + n2)).length ≤ 2 := dg_len (1 + n2)
        walk_at "rd"
        refine r_catS (small (by rw [List.length_append]; show _ + 1 + (dg (1 + n2)).length ≤ _; omega)) ?_
        walk_at "rd"
        refine r_ite (fun h1 => by omega) (fun h1 => ?_)
        walk_at "rd"
        exact out _ H4 kp4 hD4 (by rw [List.length_append, List.length_append]; show _ + 1 + (dg (1 + n2)).length ≤ _; omega)
      walk_at "rd"
      refine r_ite (fun h1 => ?_) (fun h1 => ?_)
      · walk_at "rd"
        refine r_catS (small (by show _ + 1 ≤ _; omega)) ?_
        walk_at "rd"
        refine ⟨c, d, 15, ns, rfl, hD3, by decide, fun n2 H4 n0 n1 kp4 hD4 => ?_⟩
        obtain ⟨n2, rfl⟩ : ∃ n3 : Nat, n2 = n3 := ⟨n2.toNat, by omega⟩
        walk_at "rd"
        refine ⟨_, rfl, Nat.lt_of_le_of_lt (Nat.log2_le_self _) (by omega), ?_⟩
        rw [show (10 : Int) + (n2 : Int) = ((10 + n2 : Nat) : Int) by omega, str_dg ⟨10 + n2, by omega⟩]
        have dl : (dg (10 + n2)).length ≤ 2 := dg_len (10 + n2)
        walk_at "rd"
        refine r_catS (small (by rw [List.length_append]; show _ + 1 + (dg (10 + n2)).length ≤ _; omega)) ?_
        walk_at "rd"
        exact out _ H4 kp4 hD4 (by rw [List.length_append, List.length_append]; show _ + 1 + (dg (10 + n2)).length ≤ _; omega)
      · walk_at "rd"
        exact out _ H3 (Kp.refl _ _) hD3 (by omega)
abbrev s_l_parts_text : Stmt := topS 42
abbrev N_l_parts_text : List Str := ["_law_draw_here", "_law_depth", "_law_tally", "_law_texts", "_law_turn"]
theorem sc_l_parts_text : FnScope ["_law_draw_here", "_law_depth", "_law_tally", "_law_texts", "_law_turn"] ["_law_draw_here", "_law_depth", "_law_tally"] (defScope s_l_parts_text) := ⟨rfl, rfl, rfl, by decide +kernel, rfl, by decide +kernel, by decide +kernel⟩
theorem can_l_parts_text (T : Bi mg) (F : Defd K mg "_law_parts_text" s_l_parts_text ["_law_draw_here", "_law_depth", "_law_tally"]) {n k : Nat} (hk : 3 ≤ k) (C_l_pick : Can P w K mg base L2.CX0 2 "_law_pick" ["_law_draw_here", "_law_many"] spPick) (C_l_part_text : Can P w K mg base L2.CX0 k "_law_part_text" ["_law_draw_here", "_law_depth", "_law_tally"] (spPartX n)) : Can P w K mg base L2.CX0 (k + 1) "_law_parts_text" ["_law_draw_here", "_law_depth", "_law_tally"] (spPartsX n) := by
  refine can0 F sc_l_parts_text (fun vs H Q E h => ?_) (fun f cdv A outer s H vs Q E hr h => ⟨_, (pss_cons (ps_set (i := 3) sc_l_parts_text.nd rfl (by first | exact Or.inl rfl | exact Or.inr rfl) (pe_lst (pa_cons (pe_can C_l_part_text hr (by omega) rfl (pa_cons (pv 0) (pa_cons (pv 1) (pa_cons (pv 2) pa_nil)))) pa_nil)))
  (pss_cons (ps_for PassesOwn.never rfl (pi_range1 rfl T.b_range (pa_cons (pe_ix ix_list (pe_lst (pa_cons pe_int (pa_cons pe_int (pa_cons pe_int (pa_cons pe_int (pa_cons pe_int pa_nil)))))) (pe_can C_l_pick hr (by omega) rfl (pa_cons (pv 0) (pa_cons pe_int pa_nil))) (fun _ _ => rfl)) pa_nil)) (pg_name (i := 4) sc_l_parts_text.nd rfl (by first | exact Or.inl rfl | exact Or.inr rfl))
    (pss_one (ps_if (pt_cmpR op_lt (pe_callB call_lenQ (by rfl) T.b_len boot_len (pa_cons (pv 2) pa_nil)) pe_int (nomark _)) (pss_one (ps_expr (pe_bm PySem.F.plainAttrs_list PySem.F.slot_list_append PySem.F.type_list_append mt_append (pv 3) (pa_cons (pe_can C_l_part_text hr (by omega) rfl (pa_cons (pv 0) (pa_cons (pv 1) (pa_cons (pv 2) pa_nil)))) pa_nil)))) pss_nil)))
  (pss_one (ps_ret (pe_bm PySem.F.plainAttrs_str PySem.F.slot_str_join PySem.F.type_str_join mt_joinS (pe_strL [38] (by decide +kernel)) (pa_cons (pv 3) pa_nil)))))), ?_⟩)
  · obtain ⟨_, _, _, _, _, _, rfl, _⟩ := h
    rfl
  · obtain ⟨c, d, t, dp, k0, ns, rfl, hD, hT, td, tc, d6, hnd, k29, q⟩ := h
    walk_at "rd"
    refine ⟨c, d, t, dp, k0, ns, rfl, hD, hT, td, tc, d6, hnd, k29, fun l1 k1 H1 kt1 hD1 hT1 hk1 hk2 hl1 => ?_⟩
    walk_at "rd"
    refine ⟨small (by show 1 ≤ 1000000; decide), fun L hL => ?_⟩
    have Ld : L ≠ d := hD1.nd hL
    have Lc : L ≠ c := hD1.nc hL
    have Lt : L ≠ t := fun z => by rw [z, hT1] at hL; cases hL
    have hL0 : H L = none := by
      cases e : H L with
      | none => rfl
      | some o => rw [kt1 L o Ld Lt e] at hL; cases hL
    have exL := Evl.Ex.new (o := .lst [.str (S l1)]) hL
    have gL : (upd H1 L (.lst [.str (S l1)])) L = some (.lst [.str (S l1)]) := upd_same
    generalize upd H1 L (.lst [.str (S l1)]) = HL at exL gL ⊢
    have hDL := hD1.ex' exL
    have hTL : Tally t k1 HL := exL _ _ hT1
    walk_at "rd"
    refine ⟨small (by show 5 ≤ 1000000; decide), fun za hza => ?_⟩
    have exa := Evl.Ex.new (o := .lst [.int 0, .int 0, .int 0, .int 1, .int 2]) hza
    have ga : (upd HL za (.lst [.int 0, .int 0, .int 0, .int 1, .int 2])) za = some (.lst [.int 0, .int 0, .int 0, .int 1, .int 2]) := upd_same
    have nda : za ≠ d := hDL.nd hza
    generalize upd HL za (.lst [.int 0, .int 0, .int 0, .int 1, .int 2]) = Ga at exa ga ⊢
    walk_at "rd"
    refine ⟨c, d, 5, ns, rfl, hDL.ex' exa, by decide, fun ka Ka ka0 ka1 kpa Da => ?_⟩
    have gga := kpa _ _ nda ga
    have fra := (Kp.refl d HL).trans ((Kp.of exa).trans kpa)
    obtain ⟨_, hva, ua, rfl, lua⟩ := pick_in (fun v hv => by simp only [List.mem_cons, List.not_mem_nil, or_false] at hv; rcases hv with rfl | rfl | rfl | rfl | rfl <;> exact ⟨_, rfl, by decide⟩ : ∀ v ∈ ([.int 0, .int 0, .int 0, .int 1, .int 2] : List V), IsN 2 v) ka0 (by simpa using ka1) (by decide)
    walk_at "rd"
    refine forR (fun i σ' H' => ∃ (ys : List (List Nat)) (k' : Nat) (o4 : Option V), σ' = [some (.ref d), some (.int (dp : Int)), some (.ref t), some (.ref L), o4] ∧ Kt d t H H' ∧ Dr ns c d H' ∧ Tally t k' H' ∧ k0 < k' ∧ k' ≤ 32 + 3 * (6 - dp) ∧ H' L = some (.lst (ys.map fun l => V.str (S l))) ∧ 1 ≤ ys.length ∧ ys.length ≤ i + 1 ∧ (ys.map (·.length)).sum + 2 * ys.length ≤ 9 * (k' - k0))
      ⟨[l1], k1, _, rfl, (kt1.trans (.of exL)).trans (.kp fra), Da, fra _ _ td hTL, hk1, hk2, fra _ _ Ld gL, Nat.le_refl _, Nat.le_refl _, by show (l1.length + 0) + 2 * 1 ≤ _; omega⟩ (fun i σ' H2 hi hJ => ?_) (fun σ' H2 hJ => ?_)
    · obtain ⟨ys, k', o4, rfl, kt, hD2, hT2, hk3, hk4, hL2, hy1, hyi, hys⟩ := hJ
      have hi2 : i < 2 := by omega
      have hT2' : H2 t = some (.lst (List.replicate k' (.int 1))) := hT2
      walk_at "rd"
      rw [List.length_replicate]
      refine r_ite (fun h30 => ?_) (fun h30 => ?_)
      · walk_at "rd"
        refine ⟨.inl ⟨rfl, _, Evl.sq_of hL2⟩, ?_⟩
        walk_at "rd"
        refine ⟨c, d, t, dp, k', ns, rfl, hD2, hT2, td, tc, d6, hnd, by omega, fun l2 k2 H3 kt3 hD3 hT3 hk5 hk6 hl2 => ?_⟩
        have hL3 := kt3 _ _ Ld Lt hL2
        walk_at "rd"
        refine ⟨L, _, _, rfl, rfl, hL3, by rw [List.length_map, sizeLine_eq]; omega, ?_⟩
        refine ⟨ys ++ [l2], k2, _, rfl, (kt.trans kt3).mut hL0, hD3.mut Lc Ld, ?_, by omega, hk6, ?_, by rw [List.length_append]; omega, by rw [List.length_append]; show _ + 1 ≤ _; omega, ?_⟩
        · unfold Tally
          rw [upd_ne (Ne.symm Lt)]
          exact hT3
        · rw [upd_same, List.map_append]
          rfl
        · rw [List.map_append, List.sum_append, List.length_append]
          show _ + (l2.length + 0) + 2 * (_ + 1) ≤ _
          omega
      · walk_at "rd"
        exact ⟨ys, k', _, rfl, kt, hD2, hT2, hk3, hk4, hL2, hy1, by omega, hys⟩
    · obtain ⟨ys, k', o4, rfl, kt, hD2, hT2, hk3, hk4, hL2, hy1, hyi, hys⟩ := hJ
      walk_at "rd"
      refine r_join (Evl.sq_of hL2) (by show _ + ys.length * 1 ≤ _; omega) ?_
      have jl := joinL_le ys
      exact q _ k' H2 kt hD2 hT2 hk3 hk4 (by omega)
theorem can_makers (T : Bi mg) (F1 : Defd K mg "_law_part_text" s_l_part_text ["_law_draw_here", "_law_depth", "_law_tally"]) (F2 : Defd K mg "_law_parts_text" s_l_parts_text ["_law_draw_here", "_law_depth", "_law_tally"]) (C_l_pick : Can P w K mg base L2.CX0 2 "_law_pick" ["_law_draw_here", "_law_many"] spPick) (C_l_sign : Can P w K mg base L2.CX0 3 "_law_sign" ["_law_draw_here"] spSign) (C_l_number : Can P w K mg base L2.CX0 3 "_law_number" ["_law_draw_here"] spNumber) : ∀ n : Nat, Can P w K mg base L2.CX0 (4 + 2 * n) "_law_part_text" ["_law_draw_here", "_law_depth", "_law_tally"] (spPartX n) ∧ Can P w K mg base L2.CX0 (5 + 2 * n) "_law_parts_text" ["_law_draw_here", "_law_depth", "_law_tally"] (spPartsX n) := by
  have two : ∀ n : Nat, Can P w K mg base L2.CX0 (4 + 2 * n) "_law_part_text" ["_law_draw_here", "_law_depth", "_law_tally"] (spPartX n) → Can P w K mg base L2.CX0 (5 + 2 * n) "_law_parts_text" ["_law_draw_here", "_law_depth", "_law_tally"] (spPartsX n) := by
    intro n h
    have h2 := can_l_parts_text (k := 4 + 2 * n) T F2 (by omega) C_l_pick h
    rw [show 4 + 2 * n + 1 = 5 + 2 * n by omega] at h2
    exact h2
  intro n
  induction n with
  | zero =>
    have h0 : Can P w K mg base L2.CX0 3 "_law_parts_text" ["_law_draw_here", "_law_depth", "_law_tally"] (spBelowX 0) :=
      can0 (k := 2) F2 sc_l_parts_text (fun vs H Q E h => h.elim) (fun f cdv A outer s H vs Q E hr h => h.elim)
    have h1 := can_l_part_text (k := 3) (n := 0) T F1 (Nat.le_refl _) C_l_pick C_l_sign C_l_number h0
    exact ⟨h1, two 0 h1⟩
  | succ n ih =>
    have h1 := can_l_part_text (k := 5 + 2 * n) (n := n + 1) T F1 (by omega) C_l_pick C_l_sign C_l_number ih.2
    rw [show 5 + 2 * n + 1 = 4 + 2 * (n + 1) by omega] at h1
    exact ⟨h1, two (n + 1) h1⟩
end
end Fk

set_option Elab.async false
set_option linter.all false
set_option maxRecDepth 100000
set_option maxHeartbeats 4000000
namespace Fk
open PySem PySem.Spec PyProof.Rows L2 Fg Rt
local macro_rules | `(tactic| walk_at "rd1") => `(tactic| first
  | with_reducible refine r_seq ?_
  | with_reducible refine r_asg ?_
  | with_reducible refine r_gname ?_
  | with_reducible refine r_gsub ?_
  | with_reducible refine r_ret ?_
  | with_reducible refine r_retN ?_
  | with_reducible refine r_next ?_
  | with_reducible refine r_drop ?_
  | with_reducible refine r_ifS ?_
  | with_reducible refine r_if ?_
  | with_reducible refine r_par ?_
  | with_reducible refine r_pair ?_
  | with_reducible refine r_test ?_
  | with_reducible refine r_tB ?_
  | with_reducible refine r_not ?_
  | with_reducible refine r_and ?_
  | with_reducible refine r_or ?_
  | with_reducible refine r_andV ?_
  | with_reducible refine r_orV ?_
  | with_reducible refine r_notV ?_
  | with_reducible refine r_nil ?_
  | with_reducible refine r_cons ?_
  | with_reducible refine r_call ?_
  | with_reducible refine r_callS ?_
  | with_reducible refine r_cb ?_
  | with_reducible refine r_then ?_
  | with_reducible refine r_tup ?_
  | with_reducible refine r_lst ?_
  | with_reducible refine r_sl ?_
  | with_reducible refine r_nopart ?_
  | with_reducible refine r_part ?_
  | with_reducible refine r_lcR1 ?_
  | with_reducible refine r_lcR2 ?_
  | with_reducible refine r_lcL ?_
  | with_reducible refine r_lcT ?_
  | with_reducible refine r_forR1 ?_
  | with_reducible refine r_forR2 ?_
  | with_reducible refine r_forL ?_
  | with_reducible refine r_forT ?_
  | with_reducible refine r_forE ?_
  | with_reducible refine r_strE ?_
  | ((with_reducible refine r_rng1 ?hc ?_); (case hc => omega))
  | ((with_reducible refine r_rng2 ?hc ?_); (case hc => omega))
  | ((with_reducible refine' r_refL ?hc ?_); (case hc => first | assumption | exact Evl.sq_of (by assumption)))
  | ((with_reducible refine' r_refT ?hc ?_); (case hc => first | assumption | exact Evl.st_of (by assumption)))
  | with_reducible refine r_op ?_
  | with_reducible refine r_un ?_
  | with_reducible refine r_chain ?_
  | ((with_reducible refine' r_var ?hv ?_); (case hv => exact rfl))
  | with_reducible refine r_cS ?_
  | with_reducible refine r_cs ?_
  | with_reducible refine r_c ?_
  | with_reducible refine r_yes ?_
  | with_reducible refine r_bm ?_
  | with_reducible refine r_bl ?_
  | with_reducible refine r_in ?_
  | with_reducible refine r_ty ?_
  | with_reducible refine r_I0 ?_
  | ((with_reducible refine r_I ?hc ?_); (case hc => first | assumption | (show (0 : Int) < _; decide) | exact Or.inr ⟨by decide, by decide⟩ | exact Or.inr ⟨by omega, by omega⟩ | exact Or.inl ⟨by decide, by decide⟩ | exact (show CDivW _ _ from ⟨by decide, by decide +kernel⟩) | exact (show CPowW _ _ from ⟨by decide, by decide +kernel⟩) | (show (0 : Int) < _; omega)))
  | with_reducible refine r_U ?_
  | with_reducible refine r_eqI ?_
  | with_reducible refine r_neI ?_
  | with_reducible refine r_eqS ?_
  | with_reducible refine r_neS ?_
  | with_reducible refine r_eqB ?_
  | with_reducible refine r_neB ?_
  | with_reducible refine r_niS ?_
  | with_reducible refine r_inSS ?_
  | ((with_reducible refine r_slSS ?hc ?_); (case hc => first | exact small (by omega) | exact small (by simp; omega)))
  | ((with_reducible refine r_lenS ?hc ?_); (case hc => first | exact small (by omega) | exact small (by simp; omega)))
  | ((with_reducible refine' r_lenL ?hc ?_); (case hc => first | assumption | exact Evl.sq_of (by assumption)))
  | ((with_reducible refine' r_lenT ?hc ?_); (case hc => first | assumption | exact Evl.st_of (by assumption)))
  | ((with_reducible refine' r_ixL ?h1 ?h2 ?h3 ?_); (case h1 => first | assumption | exact Evl.sq_of (by assumption) | exact Evl.sq_of upd_same); (case h2 => first | decide | omega); (case h3 => first | exact rfl | assumption))
  | ((with_reducible refine' r_ixT ?h1 ?h2 ?h3 ?_); (case h1 => first | assumption | exact Evl.st_of (by assumption)); (case h2 => first | decide | omega); (case h3 => first | exact rfl | assumption))
  | with_reducible refine r_T ?_
  | with_reducible refine r_notNn ?_
  | with_reducible refine r_notN_int ?_
  | with_reducible refine r_notN_str ?_
  | with_reducible refine r_notN_ref ?_
  | with_reducible refine r_isNn ?_
  | with_reducible refine r_isN_int ?_
  | with_reducible refine r_isN_str ?_
  | with_reducible refine r_isN_ref ?_
  | ((with_reducible refine' r_isi ?ht ?hk ?_); (case ht => first | exact .base (.int _) | exact .base (.bl _) | exact .base (.str _) | exact .base .non | exact .base (.lst (by assumption)) | exact .base (.tup (by assumption))); (case hk => first | exact kb_int_int | exact kb_int_bool | exact kb_int_str | exact kb_int_list | exact kb_int_tuple | exact kb_bool_int | exact kb_bool_bool | exact kb_bool_str | exact kb_bool_list | exact kb_bool_tuple | exact kb_str_int | exact kb_str_bool | exact kb_str_str | exact kb_str_list | exact kb_str_tuple | exact kb_NoneType_int | exact kb_NoneType_bool | exact kb_NoneType_str | exact kb_NoneType_list | exact kb_NoneType_tuple | exact kb_list_int | exact kb_list_bool | exact kb_list_str | exact kb_list_list | exact kb_list_tuple | exact kb_tuple_int | exact kb_tuple_bool | exact kb_tuple_str | exact kb_tuple_list | exact kb_tuple_tuple))
  | with_reducible refine r_F ?_
  | with_reducible refine r_nT ?_
  | with_reducible refine r_nF ?_
  | with_reducible refine r_mko ?_
  | with_reducible refine r_xf ?_
  | ((with_reducible refine' r_sum ?hc ?_); (case hc => first | assumption | exact Evl.sq_of (by assumption)))
  | ((with_reducible refine' r_setL ?h1 ?h2 ?h3 ?_); (case h1 => first | assumption | exact upd_same); (case h2 => first | decide | omega); (case h3 => first | (show _ < _; decide) | (simp; done)))
  | with_reducible refine r_int ?_
  | with_reducible refine r_abs ?_)
local macro_rules | `(tactic| walk_at "rd") => `(tactic| repeat (walk_at "rd1"))

section
variable {P : Program} {w : World} {K : PySem.W.Frag} {mg : Str → Option Value} {base : Heap}
/-- what the classes of the errors say of one another -/
structure Two (K : PySem.W.Frag) (C CB G : Addr) : Prop where
  xm1 : PySem.W.exmOne K (.ref C) (.ref G) = some true
  xm2 : PySem.W.exmOne K (.ref CB) (.ref G) = some true
  k11 : PySem.W.kitOne K (.ref C) (.ref C) = some true
  k12 : PySem.W.kitOne K (.ref C) (.ref CB) = some false
  k1v : PySem.W.kitOne K (.ref C) (.type "ValueError") = some true
  k21 : PySem.W.kitOne K (.ref CB) (.ref C) = some false
  k22 : PySem.W.kitOne K (.ref CB) (.ref CB) = some true
  k2v : PySem.W.kitOne K (.ref CB) (.type "ValueError") = some true
theorem r_isX {K : PySem.W.Frag} {a D C dd : Addr} {fs : List (Str × V)} {b : Bool} {H : Hp} {Q : VK} (c : ExcC K D) (k : PySem.W.kitOne K (.ref D) (.ref C) = some b) (h : H dd = some (.xd fs)) (q : Q (.bl b) H) : rIsX K a (.ref D) (some dd) [.ref a, .ref C] H Q :=
  ⟨D, .ref C, _, b, dd, fs, rfl, fun u r => r, rfl, c, k, rfl, h, q⟩
theorem r_isXT {K : PySem.W.Frag} {a D dd : Addr} {n : String} {fs : List (Str × V)} {b : Bool} {H : Hp} {Q : VK} (c : ExcC K D) (k : PySem.W.kitOne K (.ref D) (.type n) = some b) (h : H dd = some (.xd fs)) (q : Q (.bl b) H) : rIsX K a (.ref D) (some dd) [.ref a, .ty n] H Q :=
  ⟨D, .ty n, _, b, dd, fs, rfl, fun u r => r, rfl, c, k, rfl, h, q⟩
theorem r_eqB3 {K : PySem.W.Frag} {H : Hp} {Q : VK} {p r : Addr} {a b c x y z : Bool} (h : H p = some (.lst [.bl a, .bl b, .bl c])) (k : H r = some (.lst [.bl x, .bl y, .bl z])) (q : Q (.bl (decide (a = x ∧ b = y ∧ c = z))) H) : rEqD K (.ref p) (.ref r) H Q :=
  ⟨.list [.bool a, .bool b, .bool c], .list [.bool x, .bool y, .bool z], .lst (Evl.sq_of h) (.cons (.bl _) (.cons (.bl _) (.cons (.bl _) .nil))), .lst (Evl.sq_of k) (.cons (.bl _) (.cons (.bl _) (.cons (.bl _) .nil))), rfl, rfl, by
    have e : PyData.eqv (.list [.bool a, .bool b, .bool c]) (.list [.bool x, .bool y, .bool z]) = decide (a = x ∧ b = y ∧ c = z) := by
      cases a <;> cases b <;> cases c <;> cases x <;> cases y <;> cases z <;> rfl
    rw [e]; exact q⟩
def spIsIntI : Sp := fun vs H Q _ => ∃ i : Int, vs = [.int i] ∧ Q (.bl true) H
abbrev s_l_is_int : Stmt := topS 29
abbrev N_l_is_int : List Str := ["_law_thing"]
theorem sc_l_is_int : FnScope ["_law_thing"] ["_law_thing"] (defScope s_l_is_int) := ⟨rfl, rfl, rfl, by decide +kernel, rfl, by decide +kernel, by decide +kernel⟩
theorem can_l_is_int (T : Bi mg) (F : Defd K mg "_law_is_int" s_l_is_int ["_law_thing"]) : Can P w K mg base L2.CX0 1 "_law_is_int" ["_law_thing"] spIsIntI := by
  refine can0 F sc_l_is_int (fun vs H Q E h => ?_) (fun f cdv A outer s H vs Q E hr h => ⟨_, (pss_one (ps_ret (pe_and (pe_callB call_isi (by rfl) T.b_isinstance boot_isinstance (pa_cons (pv 0) (pa_cons (pe_bltn (v := .ty "int") (by rfl) T.b_int boot_int rfl) pa_nil))) (pe_one (pe_not (pe_callB call_isi (by rfl) T.b_isinstance boot_isinstance (pa_cons (pv 0) (pa_cons (pe_bltn (v := .ty "bool") (by rfl) T.b_bool boot_bool rfl) pa_nil)))))))), ?_⟩)
  · obtain ⟨_, rfl, _⟩ := h
    rfl
  · obtain ⟨i, rfl, q⟩ := h
    walk_at "rd"
    exact q
def Told (ys : List V) (H : Hp) (Q : VK) : Prop := ∀ p H', Ex H H' → H' p = some (.tup ys) → Q (.ref p) H'
def spTold (K : PySem.W.Frag) : Sp := fun vs H Q _ => ∃ x : V, vs = [x] ∧ ((∃ m, TyX K H x (.type m) ∧ kitB m "str" = some false ∧ Told [.str (S wBad), .int (-1)] H Q) ∨ ∃ l : List Nat, x = .str (S l) ∧ l.length ≤ 1400 ∧ Told (outV l (expect l)) H Q)
abbrev s_l_told : Stmt := topS 46
abbrev N_l_told : List Str := ["_law_text", "e", "_law_hits"]
theorem sc_l_told : FnScope ["_law_text", "e", "_law_hits"] ["_law_text"] (defScope s_l_told) := ⟨rfl, rfl, rfl, by decide +kernel, rfl, by decide +kernel, by decide +kernel⟩
theorem can_l_told (T : Bi mg) (F : Defd K mg "_law_told" s_l_told ["_law_text"]) {A_BadText A_TooLong A_GlimError : Addr} (E_BadText : Err P w K mg base "BadText" A_BadText "at") (E_TooLong : Err P w K mg base "TooLong" A_TooLong "number") (g_GlimError : mg "GlimError" = some (.ref A_GlimError)) (W2 : Two K A_BadText A_TooLong A_GlimError) (C_read_round : Can P w K mg base (L2.CX P w) 25 "read_round" ["text"] (spReadRound K A_BadText A_TooLong)) : Can P w K mg base L2.CX0 26 "_law_told" ["_law_text"] (spTold K) := by
  refine can0 F sc_l_told (fun vs H Q E h => ?_) (fun f cdv A outer s H vs Q E hr h => ⟨_, (pss_cons (ps_try_as (i := 1) (Wout := fun _ _ _ _ => False) rfl rfl sc_l_told.nd rfl rfl ⟨rfl, by decide, Or.inl g_GlimError⟩ takes0
    (fun W pn xe tk _ => (pss_one (ps_ret (pe_tup (pa_cons (pe_strL [114, 111, 119] (by decide +kernel)) (pa_cons (pe_canS C_read_round hr (by decide) rfl (fun σ => passAt tk σ) (pa_cons (pv 0) pa_nil)) pa_nil))))))
    (fun a oe cls d pn hz hf => (pss_cons (ps_set (i := 2) sc_l_told.nd rfl (by first | exact Or.inl rfl | exact Or.inr rfl) (pe_lst (pa_cons (pe_callB (call_isX hz hf) (by rfl) T.b_isinstance boot_isinstance (pa_cons (pv 1) (pa_cons (pe_glob (v := .ref A_BadText) rfl E_BadText.g rfl) pa_nil))) (pa_cons (pe_callB (call_isX hz hf) (by rfl) T.b_isinstance boot_isinstance (pa_cons (pv 1) (pa_cons (pe_glob (v := .ref A_TooLong) rfl E_TooLong.g rfl) pa_nil))) (pa_cons (pe_callB (call_isX hz hf) (by rfl) T.b_isinstance boot_isinstance (pa_cons (pv 1) (pa_cons (pe_bltn (v := .ty "ValueError") (by rfl) T.b_ValueError (by decide +kernel) rfl) pa_nil))) pa_nil)))))
  (pss_cons (ps_if (pt_cmpR (op_eqK (K := K) hr) (pv 2) (pe_lst (pa_cons pe_bl (pa_cons pe_bl (pa_cons pe_bl pa_nil)))) (nomark _)) (pss_one (ps_ret (pe_tup (pa_cons (pe_strL [98, 97, 100] (by decide +kernel)) (pa_cons (pe_xf E_BadText.xf E_BadText.noN hz hf (pv 1)) pa_nil))))) pss_nil)
  (pss_one (ps_if (pt_cmpR (op_eqK (K := K) hr) (pv 2) (pe_lst (pa_cons pe_bl (pa_cons pe_bl (pa_cons pe_bl pa_nil)))) (nomark _)) (pss_one (ps_ret (pe_tup (pa_cons (pe_strL [108, 111, 110, 103] (by decide +kernel)) (pa_cons (pe_xf E_TooLong.xf E_TooLong.noN hz hf (pv 1)) pa_nil))))) pss_nil))))))
  (pss_one (ps_ret (pe_tup (pa_cons (pe_strL [110, 111, 110, 101] (by decide +kernel)) (pa_cons pe_non pa_nil)))))), ?_⟩)
  · obtain ⟨_, rfl, _⟩ := h
    rfl
  · obtain ⟨x, rfl, hx⟩ := h
    rcases hx with ⟨m, ht, hk, q⟩ | ⟨l, rfl, hl, q⟩
    · walk_at "rd"
      refine ⟨x, rfl, .inl ⟨m, ht, hk, ?_⟩⟩
      intro dd H1 hd ex0 hdd
      refine r_wAs W2.xm1 fun a0 ha0 => ?_
      walk_at "rd"
      refine r_isX E_BadText.xc W2.k11 hdd ?_
      walk_at "rd"
      refine r_isX E_BadText.xc W2.k12 hdd ?_
      walk_at "rd"
      refine r_isXT E_BadText.xc W2.k1v hdd ?_
      walk_at "rd"
      refine ⟨small (by show 3 ≤ 1000000; decide), fun p1 hp1 => ?_⟩
      have ex1 : Ex H1 (upd H1 p1 (.lst [.bl true, .bl false, .bl true])) := Evl.Ex.new hp1
      have g1 : (upd H1 p1 (.lst [.bl true, .bl false, .bl true])) p1 = some (.lst [.bl true, .bl false, .bl true]) := upd_same
      generalize upd H1 p1 (.lst [.bl true, .bl false, .bl true]) = G1 at ex1 g1 ⊢
      walk_at "rd"
      refine ⟨small (by show 3 ≤ 1000000; decide), fun p2 hp2 => ?_⟩
      have ex2 := Evl.Ex.new (o := .lst [.bl true, .bl false, .bl true]) hp2
      refine r_eqB3 (ex2 _ _ g1) upd_same ?_
      walk_at "rd"
      refine r_ite (fun _ => ?_) (fun z => absurd (by decide) z)
      walk_at "rd"
      refine ⟨rfl, rfl, dd, _, _, rfl, ex2 _ _ (ex1 _ _ hdd), rfl, ?_⟩
      walk_at "rd"
      refine ⟨small (by show 2 ≤ 1000000; decide), fun p3 hp3 => ?_⟩
      exact q p3 _ (ex0.trans ((ex1.trans ex2).trans (Evl.Ex.new hp3))) upd_same
    · walk_at "rd"
      refine ⟨_, rfl, .inr ⟨l, rfl, by omega, ?_⟩⟩
      unfold OutRound
      unfold expect at q
      cases hx : rdAt 6 true l with
      | error e =>
        rw [hx] at q
        intro dd H1 hd ex0 hdd
        refine r_wAs W2.xm1 fun a0 ha0 => ?_
        walk_at "rd"
        refine r_isX E_BadText.xc W2.k11 hdd ?_
        walk_at "rd"
        refine r_isX E_BadText.xc W2.k12 hdd ?_
        walk_at "rd"
        refine r_isXT E_BadText.xc W2.k1v hdd ?_
        walk_at "rd"
        refine ⟨small (by show 3 ≤ 1000000; decide), fun p1 hp1 => ?_⟩
        have ex1 : Ex H1 (upd H1 p1 (.lst [.bl true, .bl false, .bl true])) := Evl.Ex.new hp1
        have g1 : (upd H1 p1 (.lst [.bl true, .bl false, .bl true])) p1 = some (.lst [.bl true, .bl false, .bl true]) := upd_same
        generalize upd H1 p1 (.lst [.bl true, .bl false, .bl true]) = G1 at ex1 g1 ⊢
        walk_at "rd"
        refine ⟨small (by show 3 ≤ 1000000; decide), fun p2 hp2 => ?_⟩
        have ex2 := Evl.Ex.new (o := .lst [.bl true, .bl false, .bl true]) hp2
        refine r_eqB3 (ex2 _ _ g1) upd_same ?_
        walk_at "rd"
        refine r_ite (fun _ => ?_) (fun z => absurd (by decide) z)
        walk_at "rd"
        refine ⟨rfl, rfl, dd, _, _, rfl, ex2 _ _ (ex1 _ _ hdd), rfl, ?_⟩
        walk_at "rd"
        refine ⟨small (by show 2 ≤ 1000000; decide), fun p3 hp3 => ?_⟩
        exact q p3 _ (ex0.trans ((ex1.trans ex2).trans (Evl.Ex.new hp3))) upd_same
      | ok g =>
        obtain ⟨s, b, r⟩ := g
        rw [hx] at q
        have q : Told (outV l (if 24 < b then .long b else .row r)) H Q := q
        refine ⟨fun h24 H1 ex1 => ?_, fun h24 => ?_⟩
        · have h24' : b ≤ 24 := h24
          rw [if_neg (by omega)] at q
          walk_at "rd"
          refine ⟨small (by show 2 ≤ 1000000; decide), fun p hp => ?_⟩
          exact q p _ (ex1.trans (Evl.Ex.new hp)) upd_same
        have h24' : 24 < b := h24
        rw [if_pos h24'] at q
        intro dd H1 hd ex0 hdd
        refine r_wAs W2.xm2 fun a0 ha0 => ?_
        walk_at "rd"
        refine r_isX E_TooLong.xc W2.k21 hdd ?_
        walk_at "rd"
        refine r_isX E_TooLong.xc W2.k22 hdd ?_
        walk_at "rd"
        refine r_isXT E_TooLong.xc W2.k2v hdd ?_
        walk_at "rd"
        refine ⟨small (by show 3 ≤ 1000000; decide), fun p1 hp1 => ?_⟩
        have ex1 : Ex H1 (upd H1 p1 (.lst [.bl false, .bl true, .bl true])) := Evl.Ex.new hp1
        have g1 : (upd H1 p1 (.lst [.bl false, .bl true, .bl true])) p1 = some (.lst [.bl false, .bl true, .bl true]) := upd_same
        generalize upd H1 p1 (.lst [.bl false, .bl true, .bl true]) = G1 at ex1 g1 ⊢
        walk_at "rd"
        refine ⟨small (by show 3 ≤ 1000000; decide), fun p2 hp2 => ?_⟩
        have ex2 := Evl.Ex.new (o := .lst [.bl true, .bl false, .bl true]) hp2
        refine r_eqB3 (ex2 _ _ g1) upd_same ?_
        walk_at "rd"
        refine r_ite (fun z => absurd z (by decide)) (fun _ => ?_)
        have g2 := ex2 _ _ g1
        generalize upd G1 p2 (.lst [.bl true, .bl false, .bl true]) = G2 at ex2 g2 ⊢
        walk_at "rd"
        refine ⟨small (by show 3 ≤ 1000000; decide), fun p4 hp4 => ?_⟩
        have ex4 := Evl.Ex.new (o := .lst [.bl false, .bl true, .bl true]) hp4
        refine r_eqB3 (ex4 _ _ g2) upd_same ?_
        walk_at "rd"
        refine r_ite (fun _ => ?_) (fun z => absurd (by decide) z)
        walk_at "rd"
        refine ⟨rfl, rfl, dd, _, _, rfl, ex4 _ _ (ex2 _ _ (ex1 _ _ hdd)), rfl, ?_⟩
        walk_at "rd"
        refine ⟨small (by show 2 ≤ 1000000; decide), fun p3 hp3 => ?_⟩
        exact q p3 _ (ex0.trans (((ex1.trans ex2).trans ex4).trans (Evl.Ex.new hp3))) upd_same

def spAgree : Sp := fun vs H Q _ => ∃ (p r : Addr) (ys : List V), vs = [.ref p, .ref r] ∧ H p = some (.tup ys) ∧ H r = some (.tup ys) ∧ ((∃ row, ys = [.str (S wRow), .str (S row)]) ∨ (∃ i : Int, ys = [.str (S wBad), .int i]) ∨ ∃ i : Int, ys = [.str (S wLong), .int i]) ∧ Q (.bl true) H
abbrev s_l_agree : Stmt := topS 47
abbrev N_l_agree : List Str := ["_law_told_here", "_law_due"]
theorem sc_l_agree : FnScope ["_law_told_here", "_law_due"] ["_law_told_here", "_law_due"] (defScope s_l_agree) := ⟨rfl, rfl, rfl, by decide +kernel, rfl, by decide +kernel, by decide +kernel⟩
theorem can_l_agree (T : Bi mg) (F : Defd K mg "_law_agree" s_l_agree ["_law_told_here", "_law_due"]) (C_l_is_int : Can P w K mg base L2.CX0 1 "_law_is_int" ["_law_thing"] spIsIntI) : Can P w K mg base L2.CX0 2 "_law_agree" ["_law_told_here", "_law_due"] spAgree := by
  refine can0 F sc_l_agree (fun vs H Q E h => ?_) (fun f cdv A outer s H vs Q E hr h => ⟨_, (pss_cons (ps_if (pt_cmpR op_ne (pe_ix ix_tup (pv 0) pe_int (fun _ _ => rfl)) (pe_ix ix_tup (pv 1) pe_int (fun _ _ => rfl)) (nomark _)) (pss_one (ps_ret pe_bl)) pss_nil)
  (pss_cons (ps_if (pt_cmpR op_eq (pe_ix ix_tup (pv 1) pe_int (fun _ _ => rfl)) (pe_strL [114, 111, 119] (by decide +kernel)) (nomark _)) (pss_one (ps_ret (pe_and (pe_callB call_isi (by rfl) T.b_isinstance boot_isinstance (pa_cons (pe_ix ix_tup (pv 0) pe_int (fun _ _ => rfl)) (pa_cons (pe_bltn (v := .ty "str") (by rfl) T.b_str boot_str rfl) pa_nil))) (pe_one (pe_cmpR op_eq (pe_ix ix_tup (pv 0) pe_int (fun _ _ => rfl)) (pe_ix ix_tup (pv 1) pe_int (fun _ _ => rfl)) (nomark _)))))) pss_nil)
  (pss_one (ps_ret (pe_and (pe_can C_l_is_int hr (by decide) rfl (pa_cons (pe_ix ix_tup (pv 0) pe_int (fun _ _ => rfl)) pa_nil)) (pe_one (pe_cmpR op_eq (pe_ix ix_tup (pv 0) pe_int (fun _ _ => rfl)) (pe_ix ix_tup (pv 1) pe_int (fun _ _ => rfl)) (nomark _)))))))), ?_⟩)
  · obtain ⟨_, _, _, rfl, _⟩ := h
    rfl
  · obtain ⟨p, r, ys, rfl, hp, hr2, hy, q⟩ := h
    rcases hy with ⟨row, rfl⟩ | ⟨i, rfl⟩ | ⟨i, rfl⟩
    · walk_at "rd"
      refine r_iteN (fun z => absurd rfl z) (fun _ => ?_)
      walk_at "rd"
      refine r_ite (fun _ => ?_) (fun z => absurd rfl z)
      walk_at "rd"
      rw [decide_eq_true rfl]
      exact q
    · walk_at "rd"
      refine r_iteN (fun z => absurd rfl z) (fun _ => ?_)
      walk_at "rd"
      refine r_ite (fun z => absurd z (by decide)) (fun _ => ?_)
      walk_at "rd"
      refine ⟨_, rfl, ?_⟩
      walk_at "rd"
      rw [decide_eq_true rfl]
      exact q
    · walk_at "rd"
      refine r_iteN (fun z => absurd rfl z) (fun _ => ?_)
      walk_at "rd"
      refine r_ite (fun z => absurd z (by decide)) (fun _ => ?_)
      walk_at "rd"
      refine ⟨_, rfl, ?_⟩
      walk_at "rd"
      rw [decide_eq_true rfl]
      exact q
end
end Fk

set_option Elab.async false
set_option linter.all false
set_option maxRecDepth 100000
set_option maxHeartbeats 4000000
namespace Fk
open PySem PySem.Spec PyProof.Rows L2 Fg Rt
local macro_rules | `(tactic| walk_at "rd1") => `(tactic| first
  | with_reducible refine r_seq ?_
  | with_reducible refine r_asg ?_
  | with_reducible refine r_gname ?_
  | with_reducible refine r_gsub ?_
  | with_reducible refine r_ret ?_
  | with_reducible refine r_retN ?_
  | with_reducible refine r_next ?_
  | with_reducible refine r_drop ?_
  | with_reducible refine r_ifS ?_
  | with_reducible refine r_if ?_
  | with_reducible refine r_par ?_
  | with_reducible refine r_pair ?_
  | with_reducible refine r_test ?_
  | with_reducible refine r_tB ?_
  | with_reducible refine r_not ?_
  | with_reducible refine r_and ?_
  | with_reducible refine r_or ?_
  | with_reducible refine r_andV ?_
  | with_reducible refine r_orV ?_
  | with_reducible refine r_notV ?_
  | with_reducible refine r_nil ?_
  | with_reducible refine r_cons ?_
  | with_reducible refine r_call ?_
  | with_reducible refine r_callS ?_
  | with_reducible refine r_cb ?_
  | with_reducible refine r_then ?_
  | with_reducible refine r_tup ?_
  | with_reducible refine r_lst ?_
  | with_reducible refine r_sl ?_
  | with_reducible refine r_nopart ?_
  | with_reducible refine r_part ?_
  | with_reducible refine r_lcR1 ?_
  | with_reducible refine r_lcR2 ?_
  | with_reducible refine r_lcL ?_
  | with_reducible refine r_lcT ?_
  | with_reducible refine r_forR1 ?_
  | with_reducible refine r_forR2 ?_
  | with_reducible refine r_forL ?_
  | with_reducible refine r_forT ?_
  | with_reducible refine r_forE ?_
  | with_reducible refine r_strE ?_
  | ((with_reducible refine r_rng1 ?hc ?_); (case hc => omega))
  | ((with_reducible refine r_rng2 ?hc ?_); (case hc => omega))
  | ((with_reducible refine' r_refL ?hc ?_); (case hc => first | assumption | exact Evl.sq_of (by assumption)))
  | ((with_reducible refine' r_refT ?hc ?_); (case hc => first | assumption | exact Evl.st_of (by assumption)))
  | with_reducible refine r_op ?_
  | with_reducible refine r_un ?_
  | with_reducible refine r_chain ?_
  | ((with_reducible refine' r_var ?hv ?_); (case hv => exact rfl))
  | with_reducible refine r_cS ?_
  | with_reducible refine r_cs ?_
  | with_reducible refine r_c ?_
  | with_reducible refine r_yes ?_
  | with_reducible refine r_bm ?_
  | with_reducible refine r_bl ?_
  | with_reducible refine r_in ?_
  | with_reducible refine r_ty ?_
  | with_reducible refine r_I0 ?_
  | ((with_reducible refine r_I ?hc ?_); (case hc => first | assumption | (show (0 : Int) < _; decide) | exact Or.inr ⟨by decide, by decide⟩ | exact Or.inr ⟨by omega, by omega⟩ | exact Or.inl ⟨by decide, by decide⟩ | exact (show CDivW _ _ from ⟨by decide, by decide +kernel⟩) | exact (show CPowW _ _ from ⟨by decide, by decide +kernel⟩) | (show (0 : Int) < _; omega)))
  | with_reducible refine r_U ?_
  | with_reducible refine r_eqI ?_
  | with_reducible refine r_neI ?_
  | with_reducible refine r_eqS ?_
  | with_reducible refine r_neS ?_
  | with_reducible refine r_eqB ?_
  | with_reducible refine r_neB ?_
  | with_reducible refine r_niS ?_
  | with_reducible refine r_inSS ?_
  | ((with_reducible refine r_slSS ?hc ?_); (case hc => first | exact small (by omega) | exact small (by simp; omega)))
  | ((with_reducible refine r_lenS ?hc ?_); (case hc => first | exact small (by omega) | exact small (by simp; omega)))
  | ((with_reducible refine' r_lenL ?hc ?_); (case hc => first | assumption | exact Evl.sq_of (by assumption)))
  | ((with_reducible refine' r_lenT ?hc ?_); (case hc => first | assumption | exact Evl.st_of (by assumption)))
  | ((with_reducible refine' r_ixL ?h1 ?h2 ?h3 ?_); (case h1 => first | assumption | exact Evl.sq_of (by assumption) | exact Evl.sq_of upd_same); (case h2 => first | decide | omega); (case h3 => first | exact rfl | assumption))
  | ((with_reducible refine' r_ixT ?h1 ?h2 ?h3 ?_); (case h1 => first | assumption | exact Evl.st_of (by assumption)); (case h2 => first | decide | omega); (case h3 => first | exact rfl | assumption))
  | with_reducible refine r_T ?_
  | with_reducible refine r_notNn ?_
  | with_reducible refine r_notN_int ?_
  | with_reducible refine r_notN_str ?_
  | with_reducible refine r_notN_ref ?_
  | with_reducible refine r_isNn ?_
  | with_reducible refine r_isN_int ?_
  | with_reducible refine r_isN_str ?_
  | with_reducible refine r_isN_ref ?_
  | ((with_reducible refine' r_isi ?ht ?hk ?_); (case ht => first | exact .base (.int _) | exact .base (.bl _) | exact .base (.str _) | exact .base .non | exact .base (.lst (by assumption)) | exact .base (.tup (by assumption))); (case hk => first | exact kb_int_int | exact kb_int_bool | exact kb_int_str | exact kb_int_list | exact kb_int_tuple | exact kb_bool_int | exact kb_bool_bool | exact kb_bool_str | exact kb_bool_list | exact kb_bool_tuple | exact kb_str_int | exact kb_str_bool | exact kb_str_str | exact kb_str_list | exact kb_str_tuple | exact kb_NoneType_int | exact kb_NoneType_bool | exact kb_NoneType_str | exact kb_NoneType_list | exact kb_NoneType_tuple | exact kb_list_int | exact kb_list_bool | exact kb_list_str | exact kb_list_list | exact kb_list_tuple | exact kb_tuple_int | exact kb_tuple_bool | exact kb_tuple_str | exact kb_tuple_list | exact kb_tuple_tuple))
  | with_reducible refine r_F ?_
  | with_reducible refine r_nT ?_
  | with_reducible refine r_nF ?_
  | with_reducible refine r_mko ?_
  | with_reducible refine r_xf ?_
  | ((with_reducible refine' r_sum ?hc ?_); (case hc => first | assumption | exact Evl.sq_of (by assumption)))
  | ((with_reducible refine' r_setL ?h1 ?h2 ?h3 ?_); (case h1 => first | assumption | exact upd_same); (case h2 => first | decide | omega); (case h3 => first | (show _ < _; decide) | (simp; done)))
  | with_reducible refine r_int ?_
  | with_reducible refine r_abs ?_)
local macro_rules | `(tactic| walk_at "rd") => `(tactic| repeat (walk_at "rd1"))

section
variable {P : Program} {w : World} {K : PySem.W.Frag} {mg : Str → Option Value} {base : Heap}
def spLaw (K : PySem.W.Frag) : Sp := fun vs H Q _ => ∃ (a : Addr) (ns : List Int), vs = [.ref a] ∧ SqL K H a (ns.map V.int) ∧ ns.length ≤ 63 ∧ ∀ H', Q (.bl true) H'
theorem outV_kind (l : List Nat) (o : Out) : (∃ row, outV l o = [.str (S wRow), .str (S row)]) ∨ (∃ i : Int, outV l o = [.str (S wBad), .int i]) ∨ ∃ i : Int, outV l o = [.str (S wLong), .int i] := by
  cases o with
  | bad e => exact .inr (.inl ⟨_, rfl⟩)
  | long n => exact .inr (.inr ⟨_, rfl⟩)
  | row r => exact .inl ⟨_, rfl⟩
abbrev s_law : Stmt := topS 48
abbrev N_law : List Str := ["_law_script", "_law_draw_here", "_law_text", "_law_once", "_law_thrice", "_law_one", "_law_thing"]
theorem sc_law : FnScope ["_law_script", "_law_draw_here", "_law_text", "_law_once", "_law_thrice", "_law_one", "_law_thing"] ["_law_script"] (defScope s_law) := ⟨rfl, rfl, rfl, by decide +kernel, rfl, by decide +kernel, by decide +kernel⟩
theorem ok_law (T : Bi mg) {f : Addr} {fd : FuncData} (F : Fun K "law" "law" s_law f fd) (C_l_draw : Can P w K mg base L2.CX0 1 "_law_draw" ["_law_script"] (spDraw K)) (C_l_parts_text : Can P w K mg base L2.CX0 17 "_law_parts_text" ["_law_draw_here", "_law_depth", "_law_tally"] (spPartsX 6)) (C_l_spoilt : Can P w K mg base L2.CX0 3 "_law_spoilt" ["_law_draw_here", "_law_text"] spSpoilt) (C_l_chain : Can P w K mg base L2.CX0 4 "_law_chain" ["_law_draw_here"] spMake) (C_l_digits : Can P w K mg base L2.CX0 3 "_law_digits" ["_law_draw_here"] spMake) (C_l_agree : Can P w K mg base L2.CX0 2 "_law_agree" ["_law_told_here", "_law_due"] spAgree) (C_l_told : Can P w K mg base L2.CX0 26 "_law_told" ["_law_text"] (spTold K)) (C_l_read : Can P w K mg base L2.CX0 4 "_law_read" ["_law_text"] spRead) (C_l_pick : Can P w K mg base L2.CX0 2 "_law_pick" ["_law_draw_here", "_law_many"] spPick) : FnOk P w K mg base L2.CX0 27 f fd ["_law_script"] (spLaw K) := by
  refine F.ok sc_law (fun vs H Q E h => ?_) (fun cdv A outer s H vs Q E hr h => ⟨_, (pss_cons (ps_set (i := 1) sc_law.nd rfl (by first | exact Or.inl rfl | exact Or.inr rfl) (pe_can C_l_draw hr (by decide) rfl (pa_cons (pv 0) pa_nil)))
  (pss_cons (ps_set (i := 2) sc_law.nd rfl (by first | exact Or.inl rfl | exact Or.inr rfl) (pe_can C_l_parts_text hr (by decide) rfl (pa_cons (pv 1) (pa_cons pe_int (pa_cons (pe_lst pa_nil) pa_nil)))))
  (pss_cons (ps_set (i := 3) sc_law.nd rfl (by first | exact Or.inl rfl | exact Or.inr rfl) (pe_can C_l_spoilt hr (by decide) rfl (pa_cons (pv 1) (pa_cons (pv 2) pa_nil))))
  (pss_cons (ps_set (i := 4) sc_law.nd rfl (by first | exact Or.inl rfl | exact Or.inr rfl) (pe_can C_l_spoilt hr (by decide) rfl (pa_cons (pv 1) (pa_cons (pe_can C_l_spoilt hr (by decide) rfl (pa_cons (pv 1) (pa_cons (pv 3) pa_nil))) pa_nil))))
  (pss_cons (ps_for PassesOwn.never rfl (pi_list (pe_lst (pa_cons (pv 2) (pa_cons (pv 3) (pa_cons (pv 4) (pa_cons (pe_can C_l_chain hr (by decide) rfl (pa_cons (pv 1) pa_nil)) (pa_cons (pe_can C_l_digits hr (by decide) rfl (pa_cons (pv 1) pa_nil)) (pa_cons (pe_strL [] (by decide +kernel)) (pa_cons (pv 2) pa_nil))))))))) (pg_name (i := 5) sc_law.nd rfl (by first | exact Or.inl rfl | exact Or.inr rfl))
    (pss_one (ps_if (pt_not (pt_val (pe_can C_l_agree hr (by decide) rfl (pa_cons (pe_can C_l_told hr (by decide) rfl (pa_cons (pv 5) pa_nil)) (pa_cons (pe_can C_l_read hr (by decide) rfl (pa_cons (pv 5) pa_nil)) pa_nil))))) (pss_one (ps_ret pe_bl)) pss_nil)))
  (pss_cons (ps_set (i := 6) sc_law.nd rfl (by first | exact Or.inl rfl | exact Or.inr rfl) (pe_ix ix_list (pe_lst (pa_cons pe_non (pa_cons pe_int (pa_cons (pe_tup (pa_cons (pe_strL [119] (by decide +kernel)) pa_nil)) (pa_cons (pe_lst (pa_cons (pe_strL [119] (by decide +kernel)) pa_nil)) (pa_cons pe_bl (pa_cons (pe_un un_neg pe_int) pa_nil))))))) (pe_can C_l_pick hr (by decide) rfl (pa_cons (pv 1) (pa_cons pe_int pa_nil))) (fun _ _ => rfl)))
  (pss_one (ps_ret (pe_and (pe_can C_l_agree hr (by decide) rfl (pa_cons (pe_can C_l_told hr (by decide) rfl (pa_cons (pv 6) pa_nil)) (pa_cons (pe_tup (pa_cons (pe_strL [98, 97, 100] (by decide +kernel)) (pa_cons (pe_un un_neg pe_int) pa_nil))) pa_nil))) (pe_one (pe_can C_l_agree hr (by decide) rfl (pa_cons (pe_can C_l_told hr (by decide) rfl (pa_cons (pv 3) pa_nil)) (pa_cons (pe_can C_l_read hr (by decide) rfl (pa_cons (pv 3) pa_nil)) pa_nil))))))))))))), ?_⟩)
  · obtain ⟨_, _, rfl, _⟩ := h
    rfl
  · obtain ⟨a0, ns, rfl, hS, hn, q⟩ := h
    walk_at "rd"
    refine ⟨a0, ns, rfl, hS, hn, fun c d H1 hc hd ex0 hD1 => ?_⟩
    walk_at "rd"
    refine ⟨small (by show 0 ≤ 1000000; decide), fun tl hnt => ?_⟩
    have ext := Evl.Ex.new (o := .lst []) hnt
    have gt : (upd H1 tl (.lst [])) tl = some (.lst []) := upd_same
    generalize upd H1 tl (.lst []) = H2 at ext gt ⊢
    refine ⟨c, d, tl, 0, 0, ns, rfl, hD1.ex' ext, gt, hD1.nd hnt, hD1.nc hnt, by decide, by decide, by decide, fun l1 k1 H3 kt3 hD3 hT3 k11 k12 ll1 => ?_⟩
    have L1 : l1.length ≤ 460 := by omega
    walk_at "rd"
    refine ⟨c, d, ns, l1, rfl, hD3, by omega, fun l2 H4 ll2 kp4 hD4 => ?_⟩
    walk_at "rd"
    refine ⟨c, d, ns, l2, rfl, hD4, by omega, fun l3a H5a ll3a kp5a hD5a => ?_⟩
    walk_at "rd"
    refine ⟨c, d, ns, l3a, rfl, hD5a, by omega, fun l3 H5 ll3 kp5 hD5 => ?_⟩
    walk_at "rd"
    refine ⟨c, d, ns, rfl, hD5, fun l4 H6 ll4 kp6 hD6 => ?_⟩
    walk_at "rd"
    refine ⟨c, d, ns, rfl, hD6, fun l5 H7 ll5 kp7 hD7 => ?_⟩
    walk_at "rd"
    refine ⟨small (by show 7 ≤ 1000000; decide), fun m hm => ?_⟩
    have exm := Evl.Ex.new (o := .lst [.str (S l1), .str (S l2), .str (S l3), .str (S l4), .str (S l5), .str (S []), .str (S l1)]) hm
    have gm : (upd H7 m (.lst [.str (S l1), .str (S l2), .str (S l3), .str (S l4), .str (S l5), .str (S []), .str (S l1)])) m = some (.lst [.str (S l1), .str (S l2), .str (S l3), .str (S l4), .str (S l5), .str (S []), .str (S l1)]) := upd_same
    generalize upd H7 m (.lst [.str (S l1), .str (S l2), .str (S l3), .str (S l4), .str (S l5), .str (S []), .str (S l1)]) = H8 at exm gm ⊢
    have hD8 := hD7.ex' exm
    have all : ∀ y ∈ ([.str (S l1), .str (S l2), .str (S l3), .str (S l4), .str (S l5), .str (S []), .str (S l1)] : List V), ∃ l : List Nat, y = .str (S l) ∧ l.length ≤ 1400 := by
      intro y hy
      simp only [List.mem_cons, List.not_mem_nil, or_false] at hy
      rcases hy with h | h | h | h | h | h | h <;> exact ⟨_, h, by first | omega | exact Nat.zero_le _⟩
    generalize ([.str (S l1), .str (S l2), .str (S l3), .str (S l4), .str (S l5), .str (S []), .str (S l1)] : List V) = ml at all gm
    walk_at "rd"
    refine forL (xs := ml) (fun _ σ' H' => ∃ o5 o6, σ' = [some (.ref a0), some (.ref d), some (.str (S l1)), some (.str (S l2)), some (.str (S l3)), o5, o6] ∧ Ex H8 H') ⟨_, _, rfl, Evl.Ex.refl _⟩ (fun i σ' H' hi hJ => ?_) (fun i y σ' H9 hy hJ => ?_) (fun σ' H9 hJ => ?_)
    · obtain ⟨o5, o6, rfl, ex⟩ := hJ
      exact Evl.sq_of (ex _ _ gm)
    · obtain ⟨o5, o6, rfl, ex⟩ := hJ
      obtain ⟨l, rfl, hl⟩ := all y (List.mem_of_getElem? hy)
      walk_at "rd"
      refine ⟨_, rfl, .inr ⟨l, rfl, hl, fun p H10 ex10 hp => ?_⟩⟩
      walk_at "rd"
      refine ⟨l, rfl, hl, fun r H11 ex11 hr11 => ?_⟩
      walk_at "rd"
      refine ⟨p, r, _, rfl, ex11 _ _ hp, hr11, outV_kind _ _, ?_⟩
      walk_at "rd"
      exact ⟨_, _, rfl, (ex.trans ex10).trans ex11⟩
    obtain ⟨o5, o6, rfl, ex⟩ := hJ
    have hD9 := hD8.ex' ex
    clear all gm
    walk_at "rd"
    refine ⟨small (by show 1 ≤ 1000000; decide), fun t1 hnt1 => ?_⟩
    have ext1 := Evl.Ex.new (o := .tup [.str (S [119])]) hnt1
    have gt1 : (upd H9 t1 (.tup [.str (S [119])])) t1 = some (.tup [.str (S [119])]) := upd_same
    generalize upd H9 t1 (.tup [.str (S [119])]) = G1 at ext1 gt1 ⊢
    walk_at "rd"
    refine ⟨small (by show 1 ≤ 1000000; decide), fun t2 hnt2 => ?_⟩
    have ext2 := Evl.Ex.new (o := .lst [.str (S [119])]) hnt2
    have gt2 : (upd G1 t2 (.lst [.str (S [119])])) t2 = some (.lst [.str (S [119])]) := upd_same
    generalize upd G1 t2 (.lst [.str (S [119])]) = G2 at ext2 gt2 ⊢
    have hDa := (hD9.ex' ext1).ex' ext2
    have d1 : t1 ≠ d := hD9.nd hnt1
    have d2 : t2 ≠ d := (hD9.ex' ext1).nd hnt2
    have gt1' := ext2 _ _ gt1
    walk_at "rd"
    refine ⟨small (by show 6 ≤ 1000000; decide), fun m2 hnm2 => ?_⟩
    have exm2 := Evl.Ex.new (o := .lst [.non, .int 5, .ref t1, .ref t2, .bl true, .int (-1)]) hnm2
    have gm2 : (upd G2 m2 (.lst [.non, .int 5, .ref t1, .ref t2, .bl true, .int (-1)])) m2 = some (.lst [.non, .int 5, .ref t1, .ref t2, .bl true, .int (-1)]) := upd_same
    generalize upd G2 m2 (.lst [.non, .int 5, .ref t1, .ref t2, .bl true, .int (-1)]) = G3 at exm2 gm2 ⊢
    have d3 : m2 ≠ d := hDa.nd hnm2
    have hDb := hDa.ex' exm2
    walk_at "rd"
    refine ⟨c, d, 6, ns, rfl, hDb, by decide, fun k G4 k0 k1' kp hDc => ?_⟩
    have ht1 := kp _ _ d1 (exm2 _ _ gt1')
    have ht2 := kp _ _ d2 (exm2 _ _ gt2)
    have hm2 := kp _ _ d3 gm2
    obtain ⟨v, hv, mt, hty, hkb⟩ := pick_in (ys := [.non, .int 5, .ref t1, .ref t2, .bl true, .int (-1)]) (p := fun v => ∃ m, TyX K G4 v (.type m) ∧ kitB m "str" = some false) (fun v hv => by
      simp only [List.mem_cons, List.not_mem_nil, or_false] at hv
      rcases hv with rfl | rfl | rfl | rfl | rfl | rfl
      · exact ⟨_, .base .non, kb_NoneType_str⟩
      · exact ⟨_, .base (.int _), kb_int_str⟩
      · exact ⟨_, .base (.tup ht1), kb_tuple_str⟩
      · exact ⟨_, .base (.lst ht2), kb_list_str⟩
      · exact ⟨_, .base (.bl _), kb_bool_str⟩
      · exact ⟨_, .base (.int _), kb_int_str⟩) k0 (by simpa using k1') (by show 0 < 6; decide)
    walk_at "rd"
    refine ⟨v, rfl, .inl ⟨mt, hty, hkb, fun p H10 ex10 hp => ?_⟩⟩
    walk_at "rd"
    refine ⟨small (by show 2 ≤ 1000000; decide), fun r hr10 => ?_⟩
    have exr := Evl.Ex.new (o := .tup [.str (S wBad), .int (-1)]) hr10
    refine ⟨p, r, _, rfl, exr _ _ hp, upd_same, .inr (.inl ⟨_, rfl⟩), ?_⟩
    walk_at "rd"
    refine ⟨_, rfl, .inr ⟨l2, rfl, by omega, fun p2 H12 ex12 hp2 => ?_⟩⟩
    walk_at "rd"
    refine ⟨l2, rfl, by omega, fun r2 H13 ex13 hr13 => ?_⟩
    walk_at "rd"
    exact ⟨p2, r2, _, rfl, ex13 _ _ hp2, hr13, outV_kind _ _, q _⟩
end
end Fk

set_option Elab.async false
set_option linter.all false
set_option maxRecDepth 100000
set_option maxHeartbeats 4000000
namespace Fk
open PySem PySem.Spec PyProof.Rows L2 Fg Rt
section
variable {P : Program} {w : World} {K : PySem.W.Frag} {mg : Str → Option Value} {base : Heap}
theorem sc_init_BadText : FnScope ["self", "at"] ["self", "at"] (defScope (inClass (topS 3) 0)) := ⟨rfl, rfl, rfl, by decide +kernel, rfl, by decide +kernel, by decide +kernel⟩
theorem ok_init_BadText {C fI : Addr} {fd : FuncData} (o : OexC K C) (n : PySem.W.findIn K (.ref C) "at" = some none) (F : Fun K "__init__" "BadText.__init__" (inClass (topS 3) 0) fI fd) : FnOk P w K mg base L2.CX0 1 fI fd ["self", "at"] (spInit C "at") := by
  refine F.ok sc_init_BadText (fun vs H Q E h => ?_) (fun cdv A outer s H vs Q E hr h => ⟨_, pss_one (ps_ost (pv 0) (pv 1)), ?_⟩)
  · obtain ⟨_, _, rfl, _⟩ := h
    rfl
  · obtain ⟨a, v, rfl, ha, q⟩ := h
    exact r_ost rfl rfl o n ha q
theorem sc_init_TooLong : FnScope ["self", "number"] ["self", "number"] (defScope (inClass (topS 4) 0)) := ⟨rfl, rfl, rfl, by decide +kernel, rfl, by decide +kernel, by decide +kernel⟩
theorem ok_init_TooLong {C fI : Addr} {fd : FuncData} (o : OexC K C) (n : PySem.W.findIn K (.ref C) "number" = some none) (F : Fun K "__init__" "TooLong.__init__" (inClass (topS 4) 0) fI fd) : FnOk P w K mg base L2.CX0 1 fI fd ["self", "number"] (spInit C "number") := by
  refine F.ok sc_init_TooLong (fun vs H Q E h => ?_) (fun cdv A outer s H vs Q E hr h => ⟨_, pss_one (ps_ost (pv 0) (pv 1)), ?_⟩)
  · obtain ⟨_, _, rfl, _⟩ := h
    rfl
  · obtain ⟨a, v, rfl, ha, q⟩ := h
    exact r_ost rfl rfl o n ha q
theorem rel_lit {l : List Nat} {s : String} {t : Tok} (h : S l = Str.ofString s) : RelV (.str (S l)) (.str (Str.ofString s) t) := ⟨t, by rw [h]⟩
theorem two_do {R : Prop} {q1 q2 f1 f2 : Str} {st1 st2 : Stmt} {p1 p2 : List Str} {C CB G : Addr} (X1 : ErrC K "BadText" q1 f1 st1 p1 C) (X2 : ErrC K "TooLong" q2 f2 st2 p2 CB) (gG : mg "GlimError" = some (.ref G))
    (h1 : PySem.W.subIn K (.ref G) (.type "BaseException") = some true) (h2 : PySem.W.isClsIn K G = true) (h3 : PySem.W.typeIn K (.ref G) = some (.type "type")) (h4 : PySem.W.subIn K (.ref C) (.ref G) = some true) (h5 : PySem.W.subIn K (.ref CB) (.ref G) = some true)
    (k11 : PySem.W.kitOne K (.ref C) (.ref C) = some true) (k12 : PySem.W.kitOne K (.ref C) (.ref CB) = some false) (k1v : PySem.W.kitOne K (.ref C) (.type "ValueError") = some true)
    (k21 : PySem.W.kitOne K (.ref CB) (.ref C) = some false) (k22 : PySem.W.kitOne K (.ref CB) (.ref CB) = some true) (k2v : PySem.W.kitOne K (.ref CB) (.type "ValueError") = some true) (n : Two K C CB G → R) : R :=
  n ⟨exm_mk h1 h2 h3 h4, exm_mk h1 h2 h3 h5, k11, k12, k1v, k21, k22, k2v⟩
theorem law_all (T : Bi mg) (F_is_sign : Defd K mg "is_sign" s_is_sign ["thing"]) (F_kept : Defd K mg "kept" s_kept ["beats", "row"]) (F_char_at : Defd K mg "char_at" s_char_at ["text", "at"]) (F_end_of_run : Defd K mg "end_of_run" s_end_of_run ["text", "at"]) (F_together : Defd K mg "together" s_together ["beats", "row", "other_beats", "other"]) (F_size_of_run : Defd K mg "size_of_run" s_size_of_run ["text", "at", "end"]) (F_read_whole : Defd K mg "read_whole" s_read_whole ["text", "at", "beats"]) (F_read_item : Defd K mg "read_item" s_read_item ["text", "at", "deep"]) (F_read_part : Defd K mg "read_part" s_read_part ["text", "at", "deep"]) (F_read_parts : Defd K mg "read_parts" s_read_parts ["text", "at", "deep"]) (F_read_round : Defd K mg "read_round" s_read_round ["text"]) (F_mix : Defd K mg "_law_mix" s_l_mix ["_law_cell", "_law_turn"]) (F_draw : Defd K mg "_law_draw" s_l_draw ["_law_script"]) (F_pick : Defd K mg "_law_pick" s_l_pick ["_law_draw_here", "_law_many"]) (F_l_common : Defd K mg "_law_common" s_l_common ["_law_one", "_law_two"]) (F_l_behind : Defd K mg "_law_behind" s_l_behind ["_law_one", "_law_two"]) (F_l_often : Defd K mg "_law_often" s_l_often ["_law_one", "_law_times_here"]) (F_l_together : Defd K mg "_law_together" s_l_together ["_law_parts"]) (F_l_run : Defd K mg "_law_run" s_l_run ["_law_text", "_law_spot"]) (F_l_fill : Defd K mg "_law_fill" s_l_fill ["_law_part", "_law_run_here"]) (F_l_times : Defd K mg "_law_times" s_l_times ["_law_run_here", "_law_follow"]) (F_l_close : Defd K mg "_law_close" s_l_close ["_law_stack", "_law_parts", "_law_part", "_law_here"]) (F_l_read : Defd K mg "_law_read" s_l_read ["_law_text"]) (F_l_sign : Defd K mg "_law_sign" s_l_sign ["_law_draw_here"]) (F_l_number : Defd K mg "_law_number" s_l_number ["_law_draw_here"]) (F_l_spoilt : Defd K mg "_law_spoilt" s_l_spoilt ["_law_draw_here", "_law_text"]) (F_l_digits : Defd K mg "_law_digits" s_l_digits ["_law_draw_here"]) (F_l_chain : Defd K mg "_law_chain" s_l_chain ["_law_draw_here"]) (F_l_part_text : Defd K mg "_law_part_text" s_l_part_text ["_law_draw_here", "_law_depth", "_law_tally"]) (F_l_parts_text : Defd K mg "_law_parts_text" s_l_parts_text ["_law_draw_here", "_law_depth", "_law_tally"]) (F_l_is_int : Defd K mg "_law_is_int" s_l_is_int ["_law_thing"]) (F_l_told : Defd K mg "_law_told" s_l_told ["_law_text"]) (F_l_agree : Defd K mg "_law_agree" s_l_agree ["_law_told_here", "_law_due"]) {A_BadText A_TooLong A_GlimError : Addr} (E_BadText : Err P w K mg base "BadText" A_BadText "at") (E_TooLong : Err P w K mg base "TooLong" A_TooLong "number") (g_GlimError : mg "GlimError" = some (.ref A_GlimError)) (W2 : Two K A_BadText A_TooLong A_GlimError)
    (c_SIGNS : ∃ u, mg "SIGNS" = some u ∧ RelV (.str (S SGL)) u) (c_DIGITS : ∃ u, mg "DIGITS" = some u ∧ RelV (.str (S DGL)) u) (c_DARK : ∃ u, mg "DARK" = some u ∧ RelV (.str (S [46])) u) (c_MOST_BEATS : ∃ u, mg "MOST_BEATS" = some u ∧ RelV (.int 24) u)
    (c_MOST_DEEP : ∃ u, mg "MOST_DEEP" = some u ∧ RelV (.int 6) u) (c_LEAST_TIMES : ∃ u, mg "LEAST_TIMES" = some u ∧ RelV (.int 2) u) (c_MOST_TIMES : ∃ u, mg "MOST_TIMES" = some u ∧ RelV (.int 24) u) (g_lcm : mg "lcm" = some (.builtin "math.lcm")) {f : Addr} {fd : FuncData} (F : Fun K "law" "law" s_law f fd) : FnOk P w K mg base L2.CX0 27 f fd ["_law_script"] (spLaw K) := by
  have C_is_sign : Can P w K mg base L2.CX0 1 "is_sign" ["thing"] spIsSign := by
    apply can_is_sign T F_is_sign <;> assumption
  have C_kept : Can P w K mg base L2.CX0 1 "kept" ["beats", "row"] spKept := by
    apply can_kept T F_kept <;> assumption
  have C_char_at : Can P w K mg base L2.CX0 1 "char_at" ["text", "at"] spChar := by
    apply can_char_at T F_char_at <;> assumption
  have C_end_of_run : Can P w K mg base L2.CX0 1 "end_of_run" ["text", "at"] spEnd := by
    apply can_end_of_run T F_end_of_run <;> assumption
  have C_together : Can P w K mg base L2.CX0 1 "together" ["beats", "row", "other_beats", "other"] spTogether := by
    apply can_together T F_together <;> assumption
  have C_size_of_run : Can P w K mg base (L2.CX P w) 3 "size_of_run" ["text", "at", "end"] (spSize A_BadText) := by
    apply can_size_of_run T F_size_of_run <;> assumption
  have C_read_whole : Can P w K mg base (L2.CX P w) 4 "read_whole" ["text", "at", "beats"] (spWhole A_BadText) := by
    apply can_read_whole T F_read_whole <;> assumption
  have C_read_parts : Can P w K mg base (L2.CX P w) 24 "read_parts" ["text", "at", "deep"] (spParts A_BadText 6) := by
    refine can_reader T F_read_item F_read_part F_read_parts ?_ ?_ ?_ ?_ ?_ ?_ ?_ ?_ ?_ ?_ ?_ ?_ ?_ ?_ 6 (Nat.le_refl _) <;> assumption
  have C_read_round : Can P w K mg base (L2.CX P w) 25 "read_round" ["text"] (spReadRound K A_BadText A_TooLong) := by
    apply can_read_round T F_read_round <;> assumption
  have C_l_mix := can_mix (P := P) (w := w) (base := base) T F_mix
  have C_l_draw := can_draw (P := P) (w := w) (base := base) T F_draw
  have C_l_pick := can_pick (P := P) (w := w) (base := base) T F_pick C_l_mix
  have C_l_common : Can P w K mg base L2.CX0 1 "_law_common" ["_law_one", "_law_two"] spCommon := by
    apply can_l_common T F_l_common <;> assumption
  have C_l_behind : Can P w K mg base L2.CX0 1 "_law_behind" ["_law_one", "_law_two"] spBehind := by
    apply can_l_behind T F_l_behind <;> assumption
  have C_l_often : Can P w K mg base L2.CX0 1 "_law_often" ["_law_one", "_law_times_here"] spOften := by
    apply can_l_often T F_l_often <;> assumption
  have C_l_together : Can P w K mg base L2.CX0 2 "_law_together" ["_law_parts"] spTog := by
    apply can_l_together T F_l_together <;> assumption
  have C_l_run : Can P w K mg base L2.CX0 1 "_law_run" ["_law_text", "_law_spot"] spRun := by
    apply can_l_run T F_l_run <;> assumption
  have C_l_fill : Can P w K mg base L2.CX0 1 "_law_fill" ["_law_part", "_law_run_here"] spFill := by
    apply can_l_fill T F_l_fill <;> assumption
  have C_l_times : Can P w K mg base L2.CX0 1 "_law_times" ["_law_run_here", "_law_follow"] spTimes := by
    apply can_l_times T F_l_times <;> assumption
  have C_l_close : Can P w K mg base L2.CX0 3 "_law_close" ["_law_stack", "_law_parts", "_law_part", "_law_here"] spClose := by
    apply can_l_close T F_l_close <;> assumption
  have C_l_read : Can P w K mg base L2.CX0 4 "_law_read" ["_law_text"] spRead := by
    apply can_l_read T F_l_read <;> assumption
  have C_l_sign : Can P w K mg base L2.CX0 3 "_law_sign" ["_law_draw_here"] spSign := by
    apply can_l_sign T F_l_sign <;> assumption
  have C_l_number : Can P w K mg base L2.CX0 3 "_law_number" ["_law_draw_here"] spNumber := by
    apply can_l_number T F_l_number <;> assumption
  have C_l_spoilt : Can P w K mg base L2.CX0 3 "_law_spoilt" ["_law_draw_here", "_law_text"] spSpoilt := by
    apply can_l_spoilt T F_l_spoilt <;> assumption
  have C_l_digits : Can P w K mg base L2.CX0 3 "_law_digits" ["_law_draw_here"] spMake := by
    apply can_l_digits T F_l_digits <;> assumption
  have C_l_chain : Can P w K mg base L2.CX0 4 "_law_chain" ["_law_draw_here"] spMake := by
    apply can_l_chain T F_l_chain <;> assumption
  have C_l_parts_text := (can_makers (P := P) (w := w) (base := base) T F_l_part_text F_l_parts_text C_l_pick C_l_sign C_l_number 6).2
  have C_l_is_int : Can P w K mg base L2.CX0 1 "_law_is_int" ["_law_thing"] spIsIntI := by
    apply can_l_is_int T F_l_is_int <;> assumption
  have C_l_told : Can P w K mg base L2.CX0 26 "_law_told" ["_law_text"] (spTold K) := by
    apply can_l_told T F_l_told <;> assumption
  have C_l_agree : Can P w K mg base L2.CX0 2 "_law_agree" ["_law_told_here", "_law_due"] spAgree := by
    apply can_l_agree T F_l_agree <;> assumption
  apply ok_law T F <;> assumption
end
end Fk

set_option Elab.async false
set_option linter.all false
set_option maxRecDepth 100000
open PySem PySem.W PyProof.Rows
set_option maxHeartbeats 8000000 in
theorem PySem.Challenge.cw_falseglim_k05_bad_rhythm_texts_holds : PySem.Challenge.rw_falseglim_k05_bad_rhythm_texts.Holds := by
  w_on; o_law; k_head; (case hw => w_witness2)
  k_fill
  refine L2.walk_of (l := PySem.Challenge.rw_falseglim_k05_bad_rhythm_texts) (n := 63) (k := 27) (x := "_law_script") (CX := fun _ => L2.CX0) (sp := fun w => Fk.spLaw _) rfl (by decide) rfl ⟨rfl, by decide, by decide⟩ (fun w h Y => PySem.W.kIn_of Y) ?F (fun _ _ a ns hl _ hS => ⟨a, ns, rfl, hS, hl, fun _ => rfl⟩) (fun _ _ _ _ _ h => h)
  case F =>
    intro w mg fa h KX G hmg
    refine' Fg.bi_do KX G ?z0 ?z1 ?z2 ?z3 ?z4 ?z5 ?z6 ?z7 ?z8 ?z9 ?z10 ?z11 ?z12 ?z13 ?z14 ?z15 ?z16 ?z17 ?_
    (case z0 => k_is); (case z1 => k_is); (case z2 => k_is); (case z3 => k_is); (case z4 => k_is); (case z5 => k_is); (case z6 => k_is); (case z7 => k_is); (case z8 => k_is); (case z9 => k_is); (case z10 => k_is); (case z11 => k_is); (case z12 => k_is); (case z13 => k_is); (case z14 => k_is); (case z15 => k_is); (case z16 => k_is); (case z17 => k_is)
    intro T
    refine' Fg.defd_do KX G "is_sign" Fk.s_is_sign ["thing"] ?ais_sign ?lis_sign ?cis_sign ?kis_sign (fun _ _ _ _ _ _ us hl => match us, hl with | [_], _ => rfl) ?_
    (case ais_sign => k_is); (case lis_sign => k_is); (case cis_sign => k_is); (case kis_sign => k_is)
    intro F_is_sign
    refine' Fg.defd_do KX G "kept" Fk.s_kept ["beats", "row"] ?akept ?lkept ?ckept ?kkept (fun _ _ _ _ _ _ us hl => match us, hl with | [_, _], _ => rfl) ?_
    (case akept => k_is); (case lkept => k_is); (case ckept => k_is); (case kkept => k_is)
    intro F_kept
    refine' Fg.defd_do KX G "char_at" Fk.s_char_at ["text", "at"] ?achar_at ?lchar_at ?cchar_at ?kchar_at (fun _ _ _ _ _ _ us hl => match us, hl with | [_, _], _ => rfl) ?_
    (case achar_at => k_is); (case lchar_at => k_is); (case cchar_at => k_is); (case kchar_at => k_is)
    intro F_char_at
    refine' Fg.defd_do KX G "end_of_run" Fk.s_end_of_run ["text", "at"] ?aend_of_run ?lend_of_run ?cend_of_run ?kend_of_run (fun _ _ _ _ _ _ us hl => match us, hl with | [_, _], _ => rfl) ?_
    (case aend_of_run => k_is); (case lend_of_run => k_is); (case cend_of_run => k_is); (case kend_of_run => k_is)
    intro F_end_of_run
    refine' Fg.defd_do KX G "together" Fk.s_together ["beats", "row", "other_beats", "other"] ?atogether ?ltogether ?ctogether ?ktogether (fun _ _ _ _ _ _ us hl => match us, hl with | [_, _, _, _], _ => rfl) ?_
    (case atogether => k_is); (case ltogether => k_is); (case ctogether => k_is); (case ktogether => k_is)
    intro F_together
    refine' Fg.defd_do KX G "size_of_run" Fk.s_size_of_run ["text", "at", "end"] ?asize_of_run ?lsize_of_run ?csize_of_run ?ksize_of_run (fun _ _ _ _ _ _ us hl => match us, hl with | [_, _, _], _ => rfl) ?_
    (case asize_of_run => k_is); (case lsize_of_run => k_is); (case csize_of_run => k_is); (case ksize_of_run => k_is)
    intro F_size_of_run
    refine' Fg.defd_do KX G "read_whole" Fk.s_read_whole ["text", "at", "beats"] ?aread_whole ?lread_whole ?cread_whole ?kread_whole (fun _ _ _ _ _ _ us hl => match us, hl with | [_, _, _], _ => rfl) ?_
    (case aread_whole => k_is); (case lread_whole => k_is); (case cread_whole => k_is); (case kread_whole => k_is)
    intro F_read_whole
    refine' Fg.defd_do KX G "read_item" Fk.s_read_item ["text", "at", "deep"] ?aread_item ?lread_item ?cread_item ?kread_item (fun _ _ _ _ _ _ us hl => match us, hl with | [_, _, _], _ => rfl) ?_
    (case aread_item => k_is); (case lread_item => k_is); (case cread_item => k_is); (case kread_item => k_is)
    intro F_read_item
    refine' Fg.defd_do KX G "read_part" Fk.s_read_part ["text", "at", "deep"] ?aread_part ?lread_part ?cread_part ?kread_part (fun _ _ _ _ _ _ us hl => match us, hl with | [_, _, _], _ => rfl) ?_
    (case aread_part => k_is); (case lread_part => k_is); (case cread_part => k_is); (case kread_part => k_is)
    intro F_read_part
    refine' Fg.defd_do KX G "read_parts" Fk.s_read_parts ["text", "at", "deep"] ?aread_parts ?lread_parts ?cread_parts ?kread_parts (fun _ _ _ _ _ _ us hl => match us, hl with | [_, _, _], _ => rfl) ?_
    (case aread_parts => k_is); (case lread_parts => k_is); (case cread_parts => k_is); (case kread_parts => k_is)
    intro F_read_parts
    refine' Fg.defd_do KX G "read_round" Fk.s_read_round ["text"] ?aread_round ?lread_round ?cread_round ?kread_round (fun _ _ _ _ _ _ us hl => match us, hl with | [_], _ => rfl) ?_
    (case aread_round => k_is); (case lread_round => k_is); (case cread_round => k_is); (case kread_round => k_is)
    intro F_read_round
    refine' Fg.defd_do KX G "_law_mix" Fk.s_l_mix ["_law_cell", "_law_turn"] ?amix ?lmix ?cmix ?kmix (fun _ _ _ _ _ _ us hl => match us, hl with | [_, _], _ => rfl) ?_
    (case amix => k_is); (case lmix => k_is); (case cmix => k_is); (case kmix => k_is)
    intro F_mix
    refine' Fg.defd_do KX G "_law_draw" Fk.s_l_draw ["_law_script"] ?adraw ?ldraw ?cdraw ?kdraw (fun _ _ _ _ _ _ us hl => match us, hl with | [_], _ => rfl) ?_
    (case adraw => k_is); (case ldraw => k_is); (case cdraw => k_is); (case kdraw => k_is)
    intro F_draw
    refine' Fg.defd_do KX G "_law_pick" Fk.s_l_pick ["_law_draw_here", "_law_many"] ?apick ?lpick ?cpick ?kpick (fun _ _ _ _ _ _ us hl => match us, hl with | [_, _], _ => rfl) ?_
    (case apick => k_is); (case lpick => k_is); (case cpick => k_is); (case kpick => k_is)
    intro F_pick
    refine' Fg.defd_do KX G "_law_common" Fk.s_l_common ["_law_one", "_law_two"] ?al_common ?ll_common ?cl_common ?kl_common (fun _ _ _ _ _ _ us hl => match us, hl with | [_, _], _ => rfl) ?_
    (case al_common => k_is); (case ll_common => k_is); (case cl_common => k_is); (case kl_common => k_is)
    intro F_l_common
    refine' Fg.defd_do KX G "_law_behind" Fk.s_l_behind ["_law_one", "_law_two"] ?al_behind ?ll_behind ?cl_behind ?kl_behind (fun _ _ _ _ _ _ us hl => match us, hl with | [_, _], _ => rfl) ?_
    (case al_behind => k_is); (case ll_behind => k_is); (case cl_behind => k_is); (case kl_behind => k_is)
    intro F_l_behind
    refine' Fg.defd_do KX G "_law_often" Fk.s_l_often ["_law_one", "_law_times_here"] ?al_often ?ll_often ?cl_often ?kl_often (fun _ _ _ _ _ _ us hl => match us, hl with | [_, _], _ => rfl) ?_
    (case al_often => k_is); (case ll_often => k_is); (case cl_often => k_is); (case kl_often => k_is)
    intro F_l_often
    refine' Fg.defd_do KX G "_law_together" Fk.s_l_together ["_law_parts"] ?al_together ?ll_together ?cl_together ?kl_together (fun _ _ _ _ _ _ us hl => match us, hl with | [_], _ => rfl) ?_
    (case al_together => k_is); (case ll_together => k_is); (case cl_together => k_is); (case kl_together => k_is)
    intro F_l_together
    refine' Fg.defd_do KX G "_law_run" Fk.s_l_run ["_law_text", "_law_spot"] ?al_run ?ll_run ?cl_run ?kl_run (fun _ _ _ _ _ _ us hl => match us, hl with | [_, _], _ => rfl) ?_
    (case al_run => k_is); (case ll_run => k_is); (case cl_run => k_is); (case kl_run => k_is)
    intro F_l_run
    refine' Fg.defd_do KX G "_law_fill" Fk.s_l_fill ["_law_part", "_law_run_here"] ?al_fill ?ll_fill ?cl_fill ?kl_fill (fun _ _ _ _ _ _ us hl => match us, hl with | [_, _], _ => rfl) ?_
    (case al_fill => k_is); (case ll_fill => k_is); (case cl_fill => k_is); (case kl_fill => k_is)
    intro F_l_fill
    refine' Fg.defd_do KX G "_law_times" Fk.s_l_times ["_law_run_here", "_law_follow"] ?al_times ?ll_times ?cl_times ?kl_times (fun _ _ _ _ _ _ us hl => match us, hl with | [_, _], _ => rfl) ?_
    (case al_times => k_is); (case ll_times => k_is); (case cl_times => k_is); (case kl_times => k_is)
    intro F_l_times
    refine' Fg.defd_do KX G "_law_close" Fk.s_l_close ["_law_stack", "_law_parts", "_law_part", "_law_here"] ?al_close ?ll_close ?cl_close ?kl_close (fun _ _ _ _ _ _ us hl => match us, hl with | [_, _, _, _], _ => rfl) ?_
    (case al_close => k_is); (case ll_close => k_is); (case cl_close => k_is); (case kl_close => k_is)
    intro F_l_close
    refine' Fg.defd_do KX G "_law_read" Fk.s_l_read ["_law_text"] ?al_read ?ll_read ?cl_read ?kl_read (fun _ _ _ _ _ _ us hl => match us, hl with | [_], _ => rfl) ?_
    (case al_read => k_is); (case ll_read => k_is); (case cl_read => k_is); (case kl_read => k_is)
    intro F_l_read
    refine' Fg.defd_do KX G "_law_sign" Fk.s_l_sign ["_law_draw_here"] ?al_sign ?ll_sign ?cl_sign ?kl_sign (fun _ _ _ _ _ _ us hl => match us, hl with | [_], _ => rfl) ?_
    (case al_sign => k_is); (case ll_sign => k_is); (case cl_sign => k_is); (case kl_sign => k_is)
    intro F_l_sign
    refine' Fg.defd_do KX G "_law_number" Fk.s_l_number ["_law_draw_here"] ?al_number ?ll_number ?cl_number ?kl_number (fun _ _ _ _ _ _ us hl => match us, hl with | [_], _ => rfl) ?_
    (case al_number => k_is); (case ll_number => k_is); (case cl_number => k_is); (case kl_number => k_is)
    intro F_l_number
    refine' Fg.defd_do KX G "_law_spoilt" Fk.s_l_spoilt ["_law_draw_here", "_law_text"] ?al_spoilt ?ll_spoilt ?cl_spoilt ?kl_spoilt (fun _ _ _ _ _ _ us hl => match us, hl with | [_, _], _ => rfl) ?_
    (case al_spoilt => k_is); (case ll_spoilt => k_is); (case cl_spoilt => k_is); (case kl_spoilt => k_is)
    intro F_l_spoilt
    refine' Fg.defd_do KX G "_law_digits" Fk.s_l_digits ["_law_draw_here"] ?al_digits ?ll_digits ?cl_digits ?kl_digits (fun _ _ _ _ _ _ us hl => match us, hl with | [_], _ => rfl) ?_
    (case al_digits => k_is); (case ll_digits => k_is); (case cl_digits => k_is); (case kl_digits => k_is)
    intro F_l_digits
    refine' Fg.defd_do KX G "_law_chain" Fk.s_l_chain ["_law_draw_here"] ?al_chain ?ll_chain ?cl_chain ?kl_chain (fun _ _ _ _ _ _ us hl => match us, hl with | [_], _ => rfl) ?_
    (case al_chain => k_is); (case ll_chain => k_is); (case cl_chain => k_is); (case kl_chain => k_is)
    intro F_l_chain
    refine' Fg.defd_do KX G "_law_part_text" Fk.s_l_part_text ["_law_draw_here", "_law_depth", "_law_tally"] ?al_part_text ?ll_part_text ?cl_part_text ?kl_part_text (fun _ _ _ _ _ _ us hl => match us, hl with | [_, _, _], _ => rfl) ?_
    (case al_part_text => k_is); (case ll_part_text => k_is); (case cl_part_text => k_is); (case kl_part_text => k_is)
    intro F_l_part_text
    refine' Fg.defd_do KX G "_law_parts_text" Fk.s_l_parts_text ["_law_draw_here", "_law_depth", "_law_tally"] ?al_parts_text ?ll_parts_text ?cl_parts_text ?kl_parts_text (fun _ _ _ _ _ _ us hl => match us, hl with | [_, _, _], _ => rfl) ?_
    (case al_parts_text => k_is); (case ll_parts_text => k_is); (case cl_parts_text => k_is); (case kl_parts_text => k_is)
    intro F_l_parts_text
    refine' Fg.defd_do KX G "_law_is_int" Fk.s_l_is_int ["_law_thing"] ?al_is_int ?ll_is_int ?cl_is_int ?kl_is_int (fun _ _ _ _ _ _ us hl => match us, hl with | [_], _ => rfl) ?_
    (case al_is_int => k_is); (case ll_is_int => k_is); (case cl_is_int => k_is); (case kl_is_int => k_is)
    intro F_l_is_int
    refine' Fg.defd_do KX G "_law_told" Fk.s_l_told ["_law_text"] ?al_told ?ll_told ?cl_told ?kl_told (fun _ _ _ _ _ _ us hl => match us, hl with | [_], _ => rfl) ?_
    (case al_told => k_is); (case ll_told => k_is); (case cl_told => k_is); (case kl_told => k_is)
    intro F_l_told
    refine' Fg.defd_do KX G "_law_agree" Fk.s_l_agree ["_law_told_here", "_law_due"] ?al_agree ?ll_agree ?cl_agree ?kl_agree (fun _ _ _ _ _ _ us hl => match us, hl with | [_, _], _ => rfl) ?_
    (case al_agree => k_is); (case ll_agree => k_is); (case cl_agree => k_is); (case kl_agree => k_is)
    intro F_l_agree
    refine' Fg.lawd_do KX G "law" Fk.s_law "_law_script" ?alaw ?llaw ?claw ?klaw (fun _ _ _ _ _ _ us hl => match us, hl with | [_], _ => rfl) ?_
    (case alaw => k_is); (case llaw => k_is); (case claw => k_is); (case klaw => k_is)
    intro fl fdl bl Fl gl
    refine' Fg.errc_do KX "BadText" "BadText.__init__" "at" (L2.inClass (Fk.topS 3) 0) ["self", "at"] ?a1BadText ?a2BadText ?a4BadText ?a5BadText ?a6BadText ?a7BadText ?a8BadText ?a9BadText ?b1BadText ?b2BadText ?b3BadText ?b4BadText ?b5BadText ?b6BadText ?b7BadText ?b8BadText ?b9BadText ?c1BadText ?c2BadText (fun _ _ _ _ _ _ us hl => match us, hl with | [_, _], _ => rfl) ?a3BadText ?_
    (case a1BadText => k_is); (case a2BadText => k_is); (case a4BadText => k_is); (case a5BadText => k_is); (case a6BadText => k_is); (case a7BadText => k_is); (case a8BadText => k_is); (case a9BadText => k_is); (case b1BadText => k_is); (case b2BadText => k_is); (case b3BadText => k_is); (case b4BadText => k_is); (case b5BadText => k_is); (case b6BadText => k_is); (case b7BadText => k_is); (case b8BadText => k_is); (case b9BadText => k_is); (case c1BadText => k_is); (case c2BadText => k_is); (case a3BadText => decide +kernel)
    intro X_BadText
    refine' Fg.errc_do KX "TooLong" "TooLong.__init__" "number" (L2.inClass (Fk.topS 4) 0) ["self", "number"] ?a1TooLong ?a2TooLong ?a4TooLong ?a5TooLong ?a6TooLong ?a7TooLong ?a8TooLong ?a9TooLong ?b1TooLong ?b2TooLong ?b3TooLong ?b4TooLong ?b5TooLong ?b6TooLong ?b7TooLong ?b8TooLong ?b9TooLong ?c1TooLong ?c2TooLong (fun _ _ _ _ _ _ us hl => match us, hl with | [_, _], _ => rfl) ?a3TooLong ?_
    (case a1TooLong => k_is); (case a2TooLong => k_is); (case a4TooLong => k_is); (case a5TooLong => k_is); (case a6TooLong => k_is); (case a7TooLong => k_is); (case a8TooLong => k_is); (case a9TooLong => k_is); (case b1TooLong => k_is); (case b2TooLong => k_is); (case b3TooLong => k_is); (case b4TooLong => k_is); (case b5TooLong => k_is); (case b6TooLong => k_is); (case b7TooLong => k_is); (case b8TooLong => k_is); (case b9TooLong => k_is); (case c1TooLong => k_is); (case c2TooLong => k_is); (case a3TooLong => decide +kernel)
    intro X_TooLong
    refine' Fg.glob_do KX G "GlimError" ?agGlimError ?_
    (case agGlimError => k_is)
    intro g_GlimError
    refine' Fg.glob_do KX G "SIGNS" ?agSIGNS ?_
    (case agSIGNS => k_is)
    intro g_SIGNS
    refine' Fg.glob_do KX G "DIGITS" ?agDIGITS ?_
    (case agDIGITS => k_is)
    intro g_DIGITS
    refine' Fg.glob_do KX G "DARK" ?agDARK ?_
    (case agDARK => k_is)
    intro g_DARK
    refine' Fg.glob_do KX G "MOST_BEATS" ?agMOST_BEATS ?_
    (case agMOST_BEATS => k_is)
    intro g_MOST_BEATS
    refine' Fg.glob_do KX G "MOST_DEEP" ?agMOST_DEEP ?_
    (case agMOST_DEEP => k_is)
    intro g_MOST_DEEP
    refine' Fg.glob_do KX G "LEAST_TIMES" ?agLEAST_TIMES ?_
    (case agLEAST_TIMES => k_is)
    intro g_LEAST_TIMES
    refine' Fg.glob_do KX G "MOST_TIMES" ?agMOST_TIMES ?_
    (case agMOST_TIMES => k_is)
    intro g_MOST_TIMES
    refine' Fg.glob_do KX G "lcm" ?aglcm ?_
    (case aglcm => k_is)
    intro g_lcm
    refine' Fk.two_do X_BadText X_TooLong g_GlimError ?th1 ?th2 ?th3 ?th4 ?th5 ?tk11 ?tk12 ?tk1v ?tk21 ?tk22 ?tk2v ?_
    (case th1 => k_is); (case th2 => k_is); (case th3 => k_is); (case th4 => k_is); (case th5 => k_is); (case tk11 => kit_is); (case tk12 => kit_is); (case tk1v => kit_is); (case tk21 => kit_is); (case tk22 => kit_is); (case tk2v => kit_is)
    intro W2
    have el := hmg.symm.trans gl
    cases el
    refine ⟨fdl, bl, fun base _ _ => ?_⟩
    exact Fk.law_all T F_is_sign F_kept F_char_at F_end_of_run F_together F_size_of_run F_read_whole F_read_item F_read_part F_read_parts F_read_round F_mix F_draw F_pick F_l_common F_l_behind F_l_often F_l_together F_l_run F_l_fill F_l_times F_l_close F_l_read F_l_sign F_l_number F_l_spoilt F_l_digits F_l_chain F_l_part_text F_l_parts_text F_l_is_int F_l_told F_l_agree (Fg.err_mk KX G X_BadText fun fI fd F => Fk.ok_init_BadText X_BadText.o X_BadText.noN F) (Fg.err_mk KX G X_TooLong fun fI fd F => Fk.ok_init_TooLong X_TooLong.o X_TooLong.noN F) g_GlimError W2 ⟨_, g_SIGNS, Fk.rel_lit (by decide +kernel)⟩ ⟨_, g_DIGITS, Fk.rel_lit (by decide +kernel)⟩ ⟨_, g_DARK, Fk.rel_lit (by decide +kernel)⟩ ⟨_, g_MOST_BEATS, _, rfl⟩ ⟨_, g_MOST_DEEP, _, rfl⟩ ⟨_, g_LEAST_TIMES, _, rfl⟩ ⟨_, g_MOST_TIMES, _, rfl⟩ g_lcm Fl
