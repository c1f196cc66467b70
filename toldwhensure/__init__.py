"""What is surely known of readings whose letters come twice, late or never."""
