"""Which rules of integer arithmetic hold in which machine integer formats."""
