"""Tables of costs in which no crossing pays."""
