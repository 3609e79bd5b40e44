"""Programs that several tests take."""

from hillrooms.reader import read

# Joints 0 to 6: joint 1 has the parts 2 and 3, joint 4 the part 5 with the part 6.
TREE = read("cat(cat([1], [2]), rev(rev([3])))")

# The second program of [13]: two chains that take turns need less than one behind the other.
HOLDS = read("cat(hold 6(rep 6(sum(hold 20(rep 8([1]))))), hold 7(rep 5(sum(hold 16(rep 9([2]))))))")
