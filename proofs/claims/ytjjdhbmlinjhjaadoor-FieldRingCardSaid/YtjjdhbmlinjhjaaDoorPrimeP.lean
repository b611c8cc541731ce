/-
  p, 2^448 - 2^224 - 1, is prime: certificates. No statement is proved here.
-/
import Derived.Test.YtjjdhbmlinjhjaaDoorPrime
namespace Go.Proofs.YtjjdhbmlinjhjaaDoor

theorem prime_6197 : prime 6197 := small_prime 6197 78 (by decide) (by decide) (by decide +kernel)
theorem prime_61 : prime 61 := small_prime 61 7 (by decide) (by decide) (by decide +kernel)
theorem prime_1335912079 : prime 1335912079 :=
  pock 1335912079 378017 3534 2 31 [6197, 61] (fun x hx => by
    simp only [List.mem_cons, List.not_mem_nil, or_false] at hx
    rcases hx with rfl | rfl
    · exact prime_6197
    · exact prime_61) (by decide +kernel) (by decide +kernel) (by decide +kernel) (by decide +kernel) (by decide +kernel) (by decide +kernel)
theorem prime_32061889897 : prime 32061889897 :=
  pock 32061889897 1335912079 24 2 35 [1335912079] (fun x hx => by
    simp only [List.mem_cons, List.not_mem_nil, or_false] at hx
    subst hx
    exact prime_1335912079) (by decide +kernel) (by decide +kernel) (by decide +kernel) (by decide +kernel) (by decide +kernel) (by decide +kernel)
theorem prime_25136521679249 : prime 25136521679249 :=
  pock 25136521679249 32061889897 784 2 45 [32061889897] (fun x hx => by
    simp only [List.mem_cons, List.not_mem_nil, or_false] at hx
    subst hx
    exact prime_32061889897) (by decide +kernel) (by decide +kernel) (by decide +kernel) (by decide +kernel) (by decide +kernel) (by decide +kernel)
theorem prime_116989 : prime 116989 := small_prime 116989 342 (by decide) (by decide) (by decide +kernel)
theorem prime_1255525949 : prime 1255525949 :=
  pock 1255525949 116989 10732 2 31 [116989] (fun x hx => by
    simp only [List.mem_cons, List.not_mem_nil, or_false] at hx
    subst hx
    exact prime_116989) (by decide +kernel) (by decide +kernel) (by decide +kernel) (by decide +kernel) (by decide +kernel) (by decide +kernel)
theorem prime_37414057161322375957408148834323969 : prime 37414057161322375957408148834323969 :=
  pock 37414057161322375957408148834323969 31559555235898174332301 1185506477568 3 115 [25136521679249, 1255525949] (fun x hx => by
    simp only [List.mem_cons, List.not_mem_nil, or_false] at hx
    rcases hx with rfl | rfl
    · exact prime_25136521679249
    · exact prime_1255525949) (by decide +kernel) (by decide +kernel) (by decide +kernel) (by decide +kernel) (by decide +kernel) (by decide +kernel)
theorem prime_613 : prime 613 := small_prime 613 24 (by decide) (by decide) (by decide +kernel)
theorem prime_217003 : prime 217003 :=
  pock 217003 613 354 2 18 [613] (fun x hx => by
    simp only [List.mem_cons, List.not_mem_nil, or_false] at hx
    subst hx
    exact prime_613) (by decide +kernel) (by decide +kernel) (by decide +kernel) (by decide +kernel) (by decide +kernel) (by decide +kernel)
theorem prime_1764234391 : prime 1764234391 :=
  pock 1764234391 217003 8130 2 31 [217003] (fun x hx => by
    simp only [List.mem_cons, List.not_mem_nil, or_false] at hx
    subst hx
    exact prime_217003) (by decide +kernel) (by decide +kernel) (by decide +kernel) (by decide +kernel) (by decide +kernel) (by decide +kernel)
theorem prime_34741861125639557 : prime 34741861125639557 :=
  pock 34741861125639557 1764234391 19692316 2 55 [1764234391] (fun x hx => by
    simp only [List.mem_cons, List.not_mem_nil, or_false] at hx
    subst hx
    exact prime_1764234391) (by decide +kernel) (by decide +kernel) (by decide +kernel) (by decide +kernel) (by decide +kernel) (by decide +kernel)
theorem prime_36131535570665139281 : prime 36131535570665139281 :=
  pock 36131535570665139281 34741861125639557 1040 2 65 [34741861125639557] (fun x hx => by
    simp only [List.mem_cons, List.not_mem_nil, or_false] at hx
    subst hx
    exact prime_34741861125639557) (by decide +kernel) (by decide +kernel) (by decide +kernel) (by decide +kernel) (by decide +kernel) (by decide +kernel)
theorem prime_596242599987116128415063 : prime 596242599987116128415063 :=
  pock 596242599987116128415063 36131535570665139281 16502 3 79 [36131535570665139281] (fun x hx => by
    simp only [List.mem_cons, List.not_mem_nil, or_false] at hx
    subst hx
    exact prime_36131535570665139281) (by decide +kernel) (by decide +kernel) (by decide +kernel) (by decide +kernel) (by decide +kernel) (by decide +kernel)
theorem prime_189989 : prime 189989 := small_prime 189989 435 (by decide) (by decide) (by decide +kernel)
theorem prime_379979 : prime 379979 :=
  pock 379979 189989 2 2 19 [189989] (fun x hx => by
    simp only [List.mem_cons, List.not_mem_nil, or_false] at hx
    subst hx
    exact prime_189989) (by decide +kernel) (by decide +kernel) (by decide +kernel) (by decide +kernel) (by decide +kernel) (by decide +kernel)
theorem prime_271 : prime 271 := small_prime 271 16 (by decide) (by decide) (by decide +kernel)
theorem prime_97859369123353 : prime 97859369123353 :=
  pock 97859369123353 102974309 950328 2 47 [379979, 271] (fun x hx => by
    simp only [List.mem_cons, List.not_mem_nil, or_false] at hx
    rcases hx with rfl | rfl
    · exact prime_379979
    · exact prime_271) (by decide +kernel) (by decide +kernel) (by decide +kernel) (by decide +kernel) (by decide +kernel) (by decide +kernel)
theorem prime_167773885276849215533569 : prime 167773885276849215533569 :=
  pock 167773885276849215533569 97859369123353 1714438656 3 78 [97859369123353] (fun x hx => by
    simp only [List.mem_cons, List.not_mem_nil, or_false] at hx
    subst hx
    exact prime_97859369123353) (by decide +kernel) (by decide +kernel) (by decide +kernel) (by decide +kernel) (by decide +kernel) (by decide +kernel)
theorem prime_726838724295606890549323807888004534353641360687318060281490199180612328166730772686396383698676545930088884461843637361053498018365439 : prime 726838724295606890549323807888004534353641360687318060281490199180612328166730772686396383698676545930088884461843637361053498018365439 :=
  pock 726838724295606890549323807888004534353641360687318060281490199180612328166730772686396383698676545930088884461843637361053498018365439 3742675458219183635390415897129183832288399365441851410848587625271384772254182743 194202979234925898177346933672251607077607746688770866 2 448 [37414057161322375957408148834323969, 596242599987116128415063, 167773885276849215533569] (fun x hx => by
    simp only [List.mem_cons, List.not_mem_nil, or_false] at hx
    rcases hx with rfl | rfl | rfl
    · exact prime_37414057161322375957408148834323969
    · exact prime_596242599987116128415063
    · exact prime_167773885276849215533569) (by decide +kernel) (by decide +kernel) (by decide +kernel) (by decide +kernel) (by decide +kernel) (by decide +kernel)
end Go.Proofs.YtjjdhbmlinjhjaaDoor
