"""The numbers that a refused call answers."""

OUT_OF_RANGE = -1
NO_GOODS = -2
NO_SUCH = -3
NO_MORE_ALLOWED = -4
GOODS_ALREADY = -5
NO_ROOM = -6
NEEDED_TWICE = -7
TOO_FEW = -8
NO_COST = -9
TOO_MANY_TICKS = -10
