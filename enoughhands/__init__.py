"""Work that never gets stuck: plans, stocks, people and duties, told exactly."""
