"""Two projectors: a booth with two film machines and the automation that changes between them."""
