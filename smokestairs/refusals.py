"""The number that an answer begins with: 0, or below 0 a refusal."""

DONE = 0
NOT_THERE = -1
NOT_AS_TOLD = -2
NEVER_CLOSED = -3
STUCK = -4
NO_FLOW = -5
NOT_KEPT = -6
