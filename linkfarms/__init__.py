"""linkfarms: package trees shown as one tree of links."""
